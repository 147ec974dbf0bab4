import Derived.Test.YtjmkecaljkcoiaaGreatDoorQMsg4
import Derived.Test.YtjmkecaljkcoiaaGreatDoorQCmd4
namespace Go.Proofs.YtjmkecaljkcoiaaGreatDoor
open Go.RowKit Go.Maps
set_option linter.unusedVariables false
set_option linter.unusedSimpArgs false
theorem with_bit (n i : Nat) : (n &&& 2 ^ i != 0) = n.testBit i := by
  rw [nat_bit, Nat.testBit_eq_decide_div_mod_eq]
  have hp : 0 < 2 ^ i := Nat.pow_pos (by decide)
  rcases Nat.mod_two_eq_zero_or_one (n / 2 ^ i) with h | h
  · simp [h]
  · rw [h, Nat.one_mul]
    generalize 2 ^ i = p at *
    simp; omega
def optG (g : Bool) (m : Ms) (i : Nat) : List UInt8 := if g then fldF m i else []
def PutR (w : World) (base b : Nat) (mg0 : Option Nat) (z : Mx) (L : List UInt8) (W : World) : Prop :=
  ∃ mg, WrAt W base b mg L ∧ Turn w W b mg0 ∧ Mov w mg0 mg ∧ mg ≠ some w.heap.size ∧ MAt10 W w.heap.size z
theorem PutR.step {w : World} {base b : Nat} {mg0 mg : Option Nat} {z : Mx} {L' : List UInt8} {W W' : World} {e : Ending} (ht : Turn w W b mg0) (hm : Mov w mg0 mg) (hn : mg ≠ some w.heap.size) (hv : MAt10 W w.heap.size z) (hb : w.heap.size ≠ b)
    (hw : WroteP W base b mg L' e W') : e = .returned (.tuple #[]) ∧ PutR w base b mg0 z L' W' := by
  obtain ⟨he, mg', h1, h2, h3⟩ := hw
  obtain ⟨t1, t2⟩ := Turn.two ht hm h2 h3
  refine ⟨he, mg', h1, t1, t2, ?_, hv.turn h2 hb (fun e => hn e.symm)⟩
  rcases h3 with rfl | ⟨g, rfl, hg⟩
  · exact hn
  · intro e
    injection e with e
    have := hv.lt
    omega
set_option maxRecDepth 100000 in
set_option maxHeartbeats 8000000 in
theorem put10_any (z : Mx) (base b B : Nat) (mg : Option Nat) (w : World) (h : WrAt w base b mg []) (hbase : base ≤ w.heap.size) (hz : MxIn w B z) (hB : B ≤ base) (hsz : MSmall z) (hK : Kinds w) (hmay : MayM z.m) :
    Calls Tryz.prog 100 #[.pointer (some ⟨b, 0, none⟩), .agg #[.int .i64 z.kind, .int .u16 z.who.i, .int .u32 z.who.k, .int .u64 z.view, .int .u64 z.slot, .int .u64 z.num, .int .i64 z.hops, .int .u32 z.b.r, .int .u16 z.b.p.i, .int .u32 z.b.p.k, .int .u32 z.a.r, .int .u16 z.a.p.i, .int .u32 z.a.p.k, .bool z.has, .int .i64 z.y.kind, .int .u16 z.y.p.i, .int .u32 z.y.p.k, .int .u64 z.y.num, .int .u64 z.y.vn, .slice z.y.A z.y.n z.y.c, .int .u64 z.y.x.id, .slice z.y.x.A z.y.x.m z.y.x.c, .slice z.y.x.B z.y.x.d z.y.x.e, .slice z.y.x.C z.y.x.f z.y.x.g, .int .u64 z.x.id, .slice z.x.A z.x.m z.x.c, .slice z.x.B z.x.d z.x.e, .slice z.x.C z.x.f z.x.g, .slice z.A z.n z.c]] w (WroteP w base b mg (formM z.m)) := by
  have hbz : Below w.heap.size w (w.alloc (.cells #[.int .i64 z.kind, .int .u16 z.who.i, .int .u32 z.who.k, .int .u64 z.view, .int .u64 z.slot, .int .u64 z.num, .int .i64 z.hops, .int .u32 z.b.r, .int .u16 z.b.p.i, .int .u32 z.b.p.k, .int .u32 z.a.r, .int .u16 z.a.p.i, .int .u32 z.a.p.k, .bool z.has, .int .i64 z.y.kind, .int .u16 z.y.p.i, .int .u32 z.y.p.k, .int .u64 z.y.num, .int .u64 z.y.vn, .slice z.y.A z.y.n z.y.c, .int .u64 z.y.x.id, .slice z.y.x.A z.y.x.m z.y.x.c, .slice z.y.x.B z.y.x.d z.y.x.e, .slice z.y.x.C z.y.x.f z.y.x.g, .int .u64 z.x.id, .slice z.x.A z.x.m z.x.c, .slice z.x.B z.x.d z.x.e, .slice z.x.C z.x.f z.x.g, .slice z.A z.n z.c] 50)) := (Below.refl _ _).alloc (Nat.le_refl _) _
  have v0 := MAt10.mk_ w z
  have hbl := h.lt
  have hwb : w.heap.size ≠ b := by omega
  have hk := hmay.kind
  obtain ⟨k, hkk⟩ := Int.eq_ofNat_of_zero_le (show 0 ≤ z.kind by have := hk.1; simp only [Mx.m] at this; omega)
  have hk14 : k ≤ 14 := by have := hk.2; simp only [Mx.m] at this; omega
  have wr : IntKind.u64.wrap z.kind = (k : Int) := by rw [hkk, IntKind.wrap_u64]; omega
  have hkn : z.m.kind.toNat = k := by simp only [Mx.m]; omega
  have CF := fieldsOf_any z (w.alloc (.cells #[.int .i64 z.kind, .int .u16 z.who.i, .int .u32 z.who.k, .int .u64 z.view, .int .u64 z.slot, .int .u64 z.num, .int .i64 z.hops, .int .u32 z.b.r, .int .u16 z.b.p.i, .int .u32 z.b.p.k, .int .u32 z.a.r, .int .u16 z.a.p.i, .int .u32 z.a.p.k, .bool z.has, .int .i64 z.y.kind, .int .u16 z.y.p.i, .int .u32 z.y.p.k, .int .u64 z.y.num, .int .u64 z.y.vn, .slice z.y.A z.y.n z.y.c, .int .u64 z.y.x.id, .slice z.y.x.A z.y.x.m z.y.x.c, .slice z.y.x.B z.y.x.d z.y.x.e, .slice z.y.x.C z.y.x.f z.y.x.g, .int .u64 z.x.id, .slice z.x.A z.x.m z.x.c, .slice z.x.B z.x.d z.x.e, .slice z.x.C z.x.f z.x.g, .slice z.A z.n z.c] 50)) (hK.later hbz)
  obtain ⟨q, hq⟩ : ∃ q, q = bitsM z.kind z.has := ⟨_, rfl⟩
  have hq1 : q < 2048 := by rw [hq]; exact bitsM_lt _ _
  have ZIN := fun W (hb : Below base w W) => hz.below (hb.mono hB)
  have RI := fun i (hi : i < 11) (hb : q.testBit i = true) => (hmay.each i hi).1 (show hasF z.m.kind z.m.has i = true by unfold hasF; rw [show bitsM z.m.kind z.m.has = q from hq.symm]; exact hb)
  rw [← hq] at CF
  have CW := fun W i (hi : i < 11) => fwith_any q (2 ^ i) W (q.testBit i) (by omega) (Nat.lt_of_lt_of_le (Nat.pow_lt_pow_right (by decide) hi) (by decide)) (with_bit q i).symm
  have HQ := hide (And.intro hq hkn)
  have hmgl : ∀ g, mg = some g → g < w.heap.size := fun g hg => (h.mlt g hg).2.1
  have hmgn : mg ≠ some w.heap.size := fun e => absurd (hmgl _ e) (Nat.lt_irrefl _)
  have hw1 := h.later hbz
  have hs1 : (w.alloc (.cells #[.int .i64 z.kind, .int .u16 z.who.i, .int .u32 z.who.k, .int .u64 z.view, .int .u64 z.slot, .int .u64 z.num, .int .i64 z.hops, .int .u32 z.b.r, .int .u16 z.b.p.i, .int .u32 z.b.p.k, .int .u32 z.a.r, .int .u16 z.a.p.i, .int .u32 z.a.p.k, .bool z.has, .int .i64 z.y.kind, .int .u16 z.y.p.i, .int .u32 z.y.p.k, .int .u64 z.y.num, .int .u64 z.y.vn, .slice z.y.A z.y.n z.y.c, .int .u64 z.y.x.id, .slice z.y.x.A z.y.x.m z.y.x.c, .slice z.y.x.B z.y.x.d z.y.x.e, .slice z.y.x.C z.y.x.f z.y.x.g, .int .u64 z.x.id, .slice z.x.A z.x.m z.x.c, .slice z.x.B z.x.d z.x.e, .slice z.x.C z.x.f z.x.g, .slice z.A z.n z.c] 50)).heap.size = w.heap.size + 1 := by simp
  have HMG := hide h.mlt
  have hblen := hz.bs.len
  have hsmall := hsz
  generalize hw1e : w.alloc (.cells #[.int .i64 z.kind, .int .u16 z.who.i, .int .u32 z.who.k, .int .u64 z.view, .int .u64 z.slot, .int .u64 z.num, .int .i64 z.hops, .int .u32 z.b.r, .int .u16 z.b.p.i, .int .u32 z.b.p.k, .int .u32 z.a.r, .int .u16 z.a.p.i, .int .u32 z.a.p.k, .bool z.has, .int .i64 z.y.kind, .int .u16 z.y.p.i, .int .u32 z.y.p.k, .int .u64 z.y.num, .int .u64 z.y.vn, .slice z.y.A z.y.n z.y.c, .int .u64 z.y.x.id, .slice z.y.x.A z.y.x.m z.y.x.c, .slice z.y.x.B z.y.x.d z.y.x.e, .slice z.y.x.C z.y.x.f z.y.x.g, .int .u64 z.x.id, .slice z.x.A z.x.m z.x.c, .slice z.x.B z.x.d z.x.e, .slice z.x.C z.x.f z.x.g, .slice z.A z.n z.c] 50) = w1 at *
  have j0 := v0.cells.1
  have HKK := hide hkk
  clear hq hkn h hz hmay hk hK hmgl hkk
  go_enter Tryz.func100, Tryz.ntmps100
  go_wp2_with (refine wpList_load_msg z w.heap.size rfl (.tmp 3) rfl rfl v0 ?_)
  refine CF.mono ?_
  rintro e w2 ⟨rfl, hb⟩
  have hb2 := hbz.trans (hb.mono hbz.size)
  have v2 := v0.later hb
  have hw2 := hw1.later hb
  have hsz2 : base ≤ w2.heap.size := Nat.le_trans hbase hb2.size
  clear CF hw1e hw1 v0 hb hbz j0 hs1
  have j0 := v2.cells.1
  rw [HKK.out] at j0 wr
  have cw := wnum_any base b mg [] k w2 hw2 hsz2 (by decide) (by omega)
  go_wp2_with fail
  refine cw.mono ?_
  intro e w3 hw
  obtain ⟨rfl, hp⟩ := PutR.step (Turn.of_below hb2 _ _) (Mov.refl _ _) hmgn v2 hwb hw
  have p0 : PutR w base b mg z (shortL k) w3 := hp
  have l0 : (shortL k).length ≤ 10 := (shortL_len k).2
  obtain ⟨L0, hL0⟩ : ∃ L, L = shortL k := ⟨_, rfl⟩
  rw [← hL0] at p0 l0
  have HL0 := hide hL0
  clear hp hw cw v2 hw2 hb2 hsz2 j0 hL0 hmgn wr
  -- the field 0
  have cw : ∀ W, Calls Tryz.prog 67 #[.int .u16 q, .int .u16 1] W (fun e w' => e = .returned (.bool (q.testBit 0)) ∧ W = w') := fun W => CW W 0 (by decide)
  have ri0 := RI 0 (by decide)
  obtain ⟨g0, hg0⟩ : ∃ g, g = q.testBit 0 := ⟨_, rfl⟩
  rw [← hg0] at cw ri0
  have HG0 := hide hg0
  clear hg0
  go_upto_if 13 with (refine (cw _).mono ?_; rintro e w8 ⟨rfl, rfl⟩)
  go_cut [] (fun wx => PutR w base b mg z (L0 ++ optG g0 z.m 0) wx ∧ (L0 ++ optG g0 z.m 0).length ≤ 30)
  case first =>
    have HLs := hide (And.intro trivial trivial)
    clear HLs
    cases g0
    · go_wp2_with fail
      go_meet
      rw [show L0 ++ optG false z.m 0 = L0 from List.append_nil _]
      exact ⟨p0, by omega⟩
    · have ri := ri0 rfl
      obtain ⟨mg3, hw, ht, hm, hn, v3⟩ := p0
      have hsz := Nat.le_trans hbase ht.size
      have low : Below base w w3 := ht.below hbase hw.1 (fun g hg => (HMG.out g hg).1)
      obtain ⟨j0, j1, j2, j3, j4, j5, j6, j7, j8, j9, j10, j11, j12, j13, j14, j15, j16, j17, j18, j19, j20, j21, j22, j23, j24, j25, j26, j27, j28⟩ := v3.cells
      have cf := wpid_any base b mg3 L0 z.who.i z.who.k w3 hw hsz (by omega) z.who.hi z.who.hk
      clear ri0 cw
      go_wp2_with fail
      refine cf.mono ?_
      intro e w4 hw4
      obtain ⟨rfl, hp⟩ := PutR.step ht hm hn v3 hwb hw4
      have l9 : (fldF z.m 0).length ≤ 20 := pidL_len _ _
      have hp' : PutR w base b mg z (L0 ++ optG true z.m 0) w4 := hp
      have l8 : (L0 ++ optG true z.m 0).length ≤ 30 := by
          rw [List.length_append, show optG true z.m 0 = fldF z.m 0 from rfl]
          omega
      clear hp hw4 cf hw ht hm v3 low j0 j1 j2 j3 j4 j5 j6 j7 j8 j9 j10 j11 j12 j13 j14 j15 j16 j17 j18 j19 j20 j21 j22 j23 j24 j25 j26 j27 j28
      go_wp2_with fail
      go_meet
      exact ⟨hp', l8⟩
  case rest =>
  obtain ⟨p1, l1⟩ := hcut
  obtain ⟨L1, hL1⟩ : ∃ L, L = L0 ++ optG g0 z.m 0 := ⟨_, rfl⟩
  rw [← hL1] at p1 l1
  have HL1 := hide (And.intro hL1 HG0.out)
  clear hL1 HG0 p0 l0 cw ri0
  obtain ⟨w3, hw3⟩ : ∃ x, x = wc := ⟨_, rfl⟩
  subst hw3
  -- the field 1
  have cw : ∀ W, Calls Tryz.prog 67 #[.int .u16 q, .int .u16 2] W (fun e w' => e = .returned (.bool (q.testBit 1)) ∧ W = w') := fun W => CW W 1 (by decide)
  have ri0 := RI 1 (by decide)
  obtain ⟨g1, hg1⟩ : ∃ g, g = q.testBit 1 := ⟨_, rfl⟩
  rw [← hg1] at cw ri0
  have HG1 := hide hg1
  clear hg1
  go_upto_if 19 with (refine (cw _).mono ?_; rintro e w8 ⟨rfl, rfl⟩)
  go_cut [] (fun wx => PutR w base b mg z (L1 ++ optG g1 z.m 1) wx ∧ (L1 ++ optG g1 z.m 1).length ≤ 40)
  case first =>
    have HLs := hide (And.intro trivial trivial)
    clear HLs
    cases g1
    · go_wp2_with fail
      go_meet
      rw [show L1 ++ optG false z.m 1 = L1 from List.append_nil _]
      exact ⟨p1, by omega⟩
    · have ri := ri0 rfl
      obtain ⟨mg3, hw, ht, hm, hn, v3⟩ := p1
      have hsz := Nat.le_trans hbase ht.size
      have low : Below base w w3 := ht.below hbase hw.1 (fun g hg => (HMG.out g hg).1)
      obtain ⟨j0, j1, j2, j3, j4, j5, j6, j7, j8, j9, j10, j11, j12, j13, j14, j15, j16, j17, j18, j19, j20, j21, j22, j23, j24, j25, j26, j27, j28⟩ := v3.cells
      have cf := wnum_any base b mg3 L1 z.view w3 hw hsz (by omega) (by have := ri; simp only [rightF, Mx.m] at this; omega)
      clear ri0 cw
      go_wp2_with fail
      refine cf.mono ?_
      intro e w4 hw4
      obtain ⟨rfl, hp⟩ := PutR.step ht hm hn v3 hwb hw4
      have l9 : (fldF z.m 1).length ≤ 10 := (shortL_len _).2
      have hp' : PutR w base b mg z (L1 ++ optG true z.m 1) w4 := hp
      have l8 : (L1 ++ optG true z.m 1).length ≤ 40 := by
          rw [List.length_append, show optG true z.m 1 = fldF z.m 1 from rfl]
          omega
      clear hp hw4 cf hw ht hm v3 low j0 j1 j2 j3 j4 j5 j6 j7 j8 j9 j10 j11 j12 j13 j14 j15 j16 j17 j18 j19 j20 j21 j22 j23 j24 j25 j26 j27 j28
      go_wp2_with fail
      go_meet
      exact ⟨hp', l8⟩
  case rest =>
  obtain ⟨p2, l2⟩ := hcut
  obtain ⟨L2, hL2⟩ : ∃ L, L = L1 ++ optG g1 z.m 1 := ⟨_, rfl⟩
  rw [← hL2] at p2 l2
  have HL2 := hide (And.intro hL2 HG1.out)
  clear hL2 HG1 p1 l1 cw ri0
  obtain ⟨w3, hw3⟩ : ∃ x, x = wc := ⟨_, rfl⟩
  subst hw3
  -- the field 2
  have cw : ∀ W, Calls Tryz.prog 67 #[.int .u16 q, .int .u16 4] W (fun e w' => e = .returned (.bool (q.testBit 2)) ∧ W = w') := fun W => CW W 2 (by decide)
  have ri0 := RI 2 (by decide)
  obtain ⟨g2, hg2⟩ : ∃ g, g = q.testBit 2 := ⟨_, rfl⟩
  rw [← hg2] at cw ri0
  have HG2 := hide hg2
  clear hg2
  go_upto_if 25 with (refine (cw _).mono ?_; rintro e w8 ⟨rfl, rfl⟩)
  go_cut [] (fun wx => PutR w base b mg z (L2 ++ optG g2 z.m 2) wx ∧ (L2 ++ optG g2 z.m 2).length ≤ 50)
  case first =>
    have HLs := hide (And.intro trivial trivial)
    clear HLs
    cases g2
    · go_wp2_with fail
      go_meet
      rw [show L2 ++ optG false z.m 2 = L2 from List.append_nil _]
      exact ⟨p2, by omega⟩
    · have ri := ri0 rfl
      obtain ⟨mg3, hw, ht, hm, hn, v3⟩ := p2
      have hsz := Nat.le_trans hbase ht.size
      have low : Below base w w3 := ht.below hbase hw.1 (fun g hg => (HMG.out g hg).1)
      obtain ⟨j0, j1, j2, j3, j4, j5, j6, j7, j8, j9, j10, j11, j12, j13, j14, j15, j16, j17, j18, j19, j20, j21, j22, j23, j24, j25, j26, j27, j28⟩ := v3.cells
      have cf := wnum_any base b mg3 L2 z.slot w3 hw hsz (by omega) (by have := ri; simp only [rightF, Mx.m] at this; omega)
      clear ri0 cw
      go_wp2_with fail
      refine cf.mono ?_
      intro e w4 hw4
      obtain ⟨rfl, hp⟩ := PutR.step ht hm hn v3 hwb hw4
      have l9 : (fldF z.m 2).length ≤ 10 := (shortL_len _).2
      have hp' : PutR w base b mg z (L2 ++ optG true z.m 2) w4 := hp
      have l8 : (L2 ++ optG true z.m 2).length ≤ 50 := by
          rw [List.length_append, show optG true z.m 2 = fldF z.m 2 from rfl]
          omega
      clear hp hw4 cf hw ht hm v3 low j0 j1 j2 j3 j4 j5 j6 j7 j8 j9 j10 j11 j12 j13 j14 j15 j16 j17 j18 j19 j20 j21 j22 j23 j24 j25 j26 j27 j28
      go_wp2_with fail
      go_meet
      exact ⟨hp', l8⟩
  case rest =>
  obtain ⟨p3, l3⟩ := hcut
  obtain ⟨L3, hL3⟩ : ∃ L, L = L2 ++ optG g2 z.m 2 := ⟨_, rfl⟩
  rw [← hL3] at p3 l3
  have HL3 := hide (And.intro hL3 HG2.out)
  clear hL3 HG2 p2 l2 cw ri0
  obtain ⟨w3, hw3⟩ : ∃ x, x = wc := ⟨_, rfl⟩
  subst hw3
  -- the field 3
  have cw : ∀ W, Calls Tryz.prog 67 #[.int .u16 q, .int .u16 8] W (fun e w' => e = .returned (.bool (q.testBit 3)) ∧ W = w') := fun W => CW W 3 (by decide)
  have ri0 := RI 3 (by decide)
  obtain ⟨g3, hg3⟩ : ∃ g, g = q.testBit 3 := ⟨_, rfl⟩
  rw [← hg3] at cw ri0
  have HG3 := hide hg3
  clear hg3
  go_upto_if 31 with (refine (cw _).mono ?_; rintro e w8 ⟨rfl, rfl⟩)
  go_cut [] (fun wx => PutR w base b mg z (L3 ++ optG g3 z.m 3) wx ∧ (L3 ++ optG g3 z.m 3).length ≤ 80)
  case first =>
    have HLs := hide (And.intro trivial trivial)
    clear HLs
    cases g3
    · go_wp2_with fail
      go_meet
      rw [show L3 ++ optG false z.m 3 = L3 from List.append_nil _]
      exact ⟨p3, by omega⟩
    · have ri := ri0 rfl
      obtain ⟨mg3, hw, ht, hm, hn, v3⟩ := p3
      have hsz := Nat.le_trans hbase ht.size
      have low : Below base w w3 := ht.below hbase hw.1 (fun g hg => (HMG.out g hg).1)
      obtain ⟨j0, j1, j2, j3, j4, j5, j6, j7, j8, j9, j10, j11, j12, j13, j14, j15, j16, j17, j18, j19, j20, j21, j22, j23, j24, j25, j26, j27, j28⟩ := v3.cells
      have cf := wballot_any base b mg3 L3 z.b.r z.b.p.i z.b.p.k w3 hw hsz (by omega) z.b.hr z.b.p.hi z.b.p.hk
      clear ri0 cw
      go_wp2_with fail
      refine cf.mono ?_
      intro e w4 hw4
      obtain ⟨rfl, hp⟩ := PutR.step ht hm hn v3 hwb hw4
      have l9 : (fldF z.m 3).length ≤ 30 := by
          simp only [fldF, balL, Mx.m, List.length_append]
          have := (shortL_len (z.m.b).r).2
          have := pidL_len (z.m.b).p.i (z.m.b).p.k
          simp only [Mx.m] at *
          omega
      have hp' : PutR w base b mg z (L3 ++ optG true z.m 3) w4 := hp
      have l8 : (L3 ++ optG true z.m 3).length ≤ 80 := by
          rw [List.length_append, show optG true z.m 3 = fldF z.m 3 from rfl]
          omega
      clear hp hw4 cf hw ht hm v3 low j0 j1 j2 j3 j4 j5 j6 j7 j8 j9 j10 j11 j12 j13 j14 j15 j16 j17 j18 j19 j20 j21 j22 j23 j24 j25 j26 j27 j28
      go_wp2_with fail
      go_meet
      exact ⟨hp', l8⟩
  case rest =>
  obtain ⟨p4, l4⟩ := hcut
  obtain ⟨L4, hL4⟩ : ∃ L, L = L3 ++ optG g3 z.m 3 := ⟨_, rfl⟩
  rw [← hL4] at p4 l4
  have HL4 := hide (And.intro hL4 HG3.out)
  clear hL4 HG3 p3 l3 cw ri0
  obtain ⟨w3, hw3⟩ : ∃ x, x = wc := ⟨_, rfl⟩
  subst hw3
  -- the field 4
  have cw : ∀ W, Calls Tryz.prog 67 #[.int .u16 q, .int .u16 16] W (fun e w' => e = .returned (.bool (q.testBit 4)) ∧ W = w') := fun W => CW W 4 (by decide)
  have ri0 := RI 4 (by decide)
  obtain ⟨g4, hg4⟩ : ∃ g, g = q.testBit 4 := ⟨_, rfl⟩
  rw [← hg4] at cw ri0
  have HG4 := hide hg4
  clear hg4
  go_upto_if 37 with (refine (cw _).mono ?_; rintro e w8 ⟨rfl, rfl⟩)
  go_cut [] (fun wx => PutR w base b mg z (L4 ++ optG g4 z.m 4) wx ∧ (L4 ++ optG g4 z.m 4).length ≤ 90)
  case first =>
    have HLs := hide (And.intro trivial trivial)
    clear HLs
    cases g4
    · go_wp2_with fail
      go_meet
      rw [show L4 ++ optG false z.m 4 = L4 from List.append_nil _]
      exact ⟨p4, by omega⟩
    · have ri := ri0 rfl
      obtain ⟨mg3, hw, ht, hm, hn, v3⟩ := p4
      have hsz := Nat.le_trans hbase ht.size
      have low : Below base w w3 := ht.below hbase hw.1 (fun g hg => (HMG.out g hg).1)
      obtain ⟨j0, j1, j2, j3, j4, j5, j6, j7, j8, j9, j10, j11, j12, j13, j14, j15, j16, j17, j18, j19, j20, j21, j22, j23, j24, j25, j26, j27, j28⟩ := v3.cells
      have cf := wnum_any base b mg3 L4 z.num w3 hw hsz (by omega) (by have := ri; simp only [rightF, Mx.m] at this; omega)
      clear ri0 cw
      go_wp2_with fail
      refine cf.mono ?_
      intro e w4 hw4
      obtain ⟨rfl, hp⟩ := PutR.step ht hm hn v3 hwb hw4
      have l9 : (fldF z.m 4).length ≤ 10 := (shortL_len _).2
      have hp' : PutR w base b mg z (L4 ++ optG true z.m 4) w4 := hp
      have l8 : (L4 ++ optG true z.m 4).length ≤ 90 := by
          rw [List.length_append, show optG true z.m 4 = fldF z.m 4 from rfl]
          omega
      clear hp hw4 cf hw ht hm v3 low j0 j1 j2 j3 j4 j5 j6 j7 j8 j9 j10 j11 j12 j13 j14 j15 j16 j17 j18 j19 j20 j21 j22 j23 j24 j25 j26 j27 j28
      go_wp2_with fail
      go_meet
      exact ⟨hp', l8⟩
  case rest =>
  obtain ⟨p5, l5⟩ := hcut
  obtain ⟨L5, hL5⟩ : ∃ L, L = L4 ++ optG g4 z.m 4 := ⟨_, rfl⟩
  rw [← hL5] at p5 l5
  have HL5 := hide (And.intro hL5 HG4.out)
  clear hL5 HG4 p4 l4 cw ri0
  obtain ⟨w3, hw3⟩ : ∃ x, x = wc := ⟨_, rfl⟩
  subst hw3
  -- the field 5
  have cw : ∀ W, Calls Tryz.prog 67 #[.int .u16 q, .int .u16 32] W (fun e w' => e = .returned (.bool (q.testBit 5)) ∧ W = w') := fun W => CW W 5 (by decide)
  have ri0 := RI 5 (by decide)
  obtain ⟨g5, hg5⟩ : ∃ g, g = q.testBit 5 := ⟨_, rfl⟩
  rw [← hg5] at cw ri0
  have HG5 := hide hg5
  clear hg5
  go_upto_if 43 with (refine (cw _).mono ?_; rintro e w8 ⟨rfl, rfl⟩)
  go_cut [] (fun wx => PutR w base b mg z (L5 ++ optG g5 z.m 5) wx ∧ (L5 ++ optG g5 z.m 5).length ≤ 100)
  case first =>
    have HLs := hide (And.intro trivial trivial)
    clear HLs
    cases g5
    · go_wp2_with fail
      go_meet
      rw [show L5 ++ optG false z.m 5 = L5 from List.append_nil _]
      exact ⟨p5, by omega⟩
    · have ri := ri0 rfl
      obtain ⟨mg3, hw, ht, hm, hn, v3⟩ := p5
      have hsz := Nat.le_trans hbase ht.size
      have low : Below base w w3 := ht.below hbase hw.1 (fun g hg => (HMG.out g hg).1)
      obtain ⟨j0, j1, j2, j3, j4, j5, j6, j7, j8, j9, j10, j11, j12, j13, j14, j15, j16, j17, j18, j19, j20, j21, j22, j23, j24, j25, j26, j27, j28⟩ := v3.cells
      obtain ⟨o, ho, ho4, wr⟩ : ∃ o : Nat, o = z.hops.toNat ∧ o ≤ 4 ∧ IntKind.u64.wrap z.hops = (o : Int) := ⟨z.hops.toNat, rfl, by have := ri; simp only [rightF, Mx.m] at this; omega, by have := ri; simp only [rightF, Mx.m] at this; rw [IntKind.wrap_u64]; omega⟩
      have HO := hide ho
      clear ho
      have cf := wnum_any base b mg3 L5 o w3 hw hsz (by omega) (by omega)
      clear ri0 cw
      go_wp2_with fail
      refine cf.mono ?_
      intro e w4 hw4
      obtain ⟨rfl, hp⟩ := PutR.step ht hm hn v3 hwb hw4
      have l9 : (fldF z.m 5).length ≤ 10 := (shortL_len _).2
      rw [HO.out] at hp
      have hp' : PutR w base b mg z (L5 ++ optG true z.m 5) w4 := hp
      have l8 : (L5 ++ optG true z.m 5).length ≤ 100 := by
          rw [List.length_append, show optG true z.m 5 = fldF z.m 5 from rfl]
          omega
      clear hp hw4 cf hw ht hm v3 low j0 j1 j2 j3 j4 j5 j6 j7 j8 j9 j10 j11 j12 j13 j14 j15 j16 j17 j18 j19 j20 j21 j22 j23 j24 j25 j26 j27 j28
      go_wp2_with fail
      go_meet
      exact ⟨hp', l8⟩
  case rest =>
  obtain ⟨p6, l6⟩ := hcut
  obtain ⟨L6, hL6⟩ : ∃ L, L = L5 ++ optG g5 z.m 5 := ⟨_, rfl⟩
  rw [← hL6] at p6 l6
  have HL6 := hide (And.intro hL6 HG5.out)
  clear hL6 HG5 p5 l5 cw ri0
  obtain ⟨w3, hw3⟩ : ∃ x, x = wc := ⟨_, rfl⟩
  subst hw3
  -- the field 6
  have cw : ∀ W, Calls Tryz.prog 67 #[.int .u16 q, .int .u16 64] W (fun e w' => e = .returned (.bool (q.testBit 6)) ∧ W = w') := fun W => CW W 6 (by decide)
  have ri0 := RI 6 (by decide)
  obtain ⟨g6, hg6⟩ : ∃ g, g = q.testBit 6 := ⟨_, rfl⟩
  rw [← hg6] at cw ri0
  have HG6 := hide hg6
  clear hg6
  go_upto_if 50 with (refine (cw _).mono ?_; rintro e w8 ⟨rfl, rfl⟩)
  go_cut [] (fun wx => PutR w base b mg z (L6 ++ optG g6 z.m 6) wx ∧ (L6 ++ optG g6 z.m 6).length ≤ 101)
  case first =>
    have HLs := hide (And.intro trivial trivial)
    clear HLs
    cases g6
    · go_wp2_with fail
      go_meet
      rw [show L6 ++ optG false z.m 6 = L6 from List.append_nil _]
      exact ⟨p6, by omega⟩
    · have ri := ri0 rfl
      obtain ⟨mg3, hw, ht, hm, hn, v3⟩ := p6
      have hsz := Nat.le_trans hbase ht.size
      have low : Below base w w3 := ht.below hbase hw.1 (fun g hg => (HMG.out g hg).1)
      obtain ⟨j0, j1, j2, j3, j4, j5, j6, j7, j8, j9, j10, j11, j12, j13, j14, j15, j16, j17, j18, j19, j20, j21, j22, j23, j24, j25, j26, j27, j28⟩ := v3.cells
      have cf := wtruth_any base b mg3 L6 z.has w3 hw hsz (by omega)
      clear ri0 cw
      go_wp2_with fail
      refine cf.mono ?_
      intro e w4 hw4
      obtain ⟨rfl, hp⟩ := PutR.step ht hm hn v3 hwb hw4
      have l9 : (fldF z.m 6).length ≤ 1 := by simp [fldF]
      have hp' : PutR w base b mg z (L6 ++ optG true z.m 6) w4 := hp
      have l8 : (L6 ++ optG true z.m 6).length ≤ 101 := by
          rw [List.length_append, show optG true z.m 6 = fldF z.m 6 from rfl]
          omega
      clear hp hw4 cf hw ht hm v3 low j0 j1 j2 j3 j4 j5 j6 j7 j8 j9 j10 j11 j12 j13 j14 j15 j16 j17 j18 j19 j20 j21 j22 j23 j24 j25 j26 j27 j28
      go_wp2_with fail
      go_meet
      exact ⟨hp', l8⟩
  case rest =>
  obtain ⟨p7, l7⟩ := hcut
  obtain ⟨L7, hL7⟩ : ∃ L, L = L6 ++ optG g6 z.m 6 := ⟨_, rfl⟩
  rw [← hL7] at p7 l7
  have HL7 := hide (And.intro hL7 HG6.out)
  clear hL7 HG6 p6 l6 cw ri0
  obtain ⟨w3, hw3⟩ : ∃ x, x = wc := ⟨_, rfl⟩
  subst hw3
  -- the field 7
  have cw : ∀ W, Calls Tryz.prog 67 #[.int .u16 q, .int .u16 128] W (fun e w' => e = .returned (.bool (q.testBit 7)) ∧ W = w') := fun W => CW W 7 (by decide)
  have ri0 := RI 7 (by decide)
  obtain ⟨g7, hg7⟩ : ∃ g, g = q.testBit 7 := ⟨_, rfl⟩
  rw [← hg7] at cw ri0
  have HG7 := hide hg7
  clear hg7
  go_upto_if 56 with (refine (cw _).mono ?_; rintro e w8 ⟨rfl, rfl⟩)
  go_cut [] (fun wx => PutR w base b mg z (L7 ++ optG g7 z.m 7) wx ∧ (L7 ++ optG g7 z.m 7).length ≤ 131)
  case first =>
    have HLs := hide (And.intro trivial trivial)
    clear HLs
    cases g7
    · go_wp2_with fail
      go_meet
      rw [show L7 ++ optG false z.m 7 = L7 from List.append_nil _]
      exact ⟨p7, by omega⟩
    · have ri := ri0 rfl
      obtain ⟨mg3, hw, ht, hm, hn, v3⟩ := p7
      have hsz := Nat.le_trans hbase ht.size
      have low : Below base w w3 := ht.below hbase hw.1 (fun g hg => (HMG.out g hg).1)
      obtain ⟨j0, j1, j2, j3, j4, j5, j6, j7, j8, j9, j10, j11, j12, j13, j14, j15, j16, j17, j18, j19, j20, j21, j22, j23, j24, j25, j26, j27, j28⟩ := v3.cells
      have cf := wballot_any base b mg3 L7 z.a.r z.a.p.i z.a.p.k w3 hw hsz (by omega) z.a.hr z.a.p.hi z.a.p.hk
      clear ri0 cw
      go_wp2_with fail
      refine cf.mono ?_
      intro e w4 hw4
      obtain ⟨rfl, hp⟩ := PutR.step ht hm hn v3 hwb hw4
      have l9 : (fldF z.m 7).length ≤ 30 := by
          simp only [fldF, balL, Mx.m, List.length_append]
          have := (shortL_len (z.m.a).r).2
          have := pidL_len (z.m.a).p.i (z.m.a).p.k
          simp only [Mx.m] at *
          omega
      have hp' : PutR w base b mg z (L7 ++ optG true z.m 7) w4 := hp
      have l8 : (L7 ++ optG true z.m 7).length ≤ 131 := by
          rw [List.length_append, show optG true z.m 7 = fldF z.m 7 from rfl]
          omega
      clear hp hw4 cf hw ht hm v3 low j0 j1 j2 j3 j4 j5 j6 j7 j8 j9 j10 j11 j12 j13 j14 j15 j16 j17 j18 j19 j20 j21 j22 j23 j24 j25 j26 j27 j28
      go_wp2_with fail
      go_meet
      exact ⟨hp', l8⟩
  case rest =>
  obtain ⟨p8, l8⟩ := hcut
  obtain ⟨L8, hL8⟩ : ∃ L, L = L7 ++ optG g7 z.m 7 := ⟨_, rfl⟩
  rw [← hL8] at p8 l8
  have HL8 := hide (And.intro hL8 HG7.out)
  clear hL8 HG7 p7 l7 cw ri0
  obtain ⟨w3, hw3⟩ : ∃ x, x = wc := ⟨_, rfl⟩
  subst hw3
  -- the field 8
  have cw : ∀ W, Calls Tryz.prog 67 #[.int .u16 q, .int .u16 256] W (fun e w' => e = .returned (.bool (q.testBit 8)) ∧ W = w') := fun W => CW W 8 (by decide)
  have ri0 := RI 8 (by decide)
  obtain ⟨g8, hg8⟩ : ∃ g, g = q.testBit 8 := ⟨_, rfl⟩
  rw [← hg8] at cw ri0
  have HG8 := hide hg8
  clear hg8
  go_upto_if 62 with (refine (cw _).mono ?_; rintro e w8 ⟨rfl, rfl⟩)
  go_cut [] (fun wx => PutR w base b mg z (L8 ++ optG g8 z.m 8) wx ∧ (L8 ++ optG g8 z.m 8).length ≤ 100231)
  case first =>
    have HLs := hide (And.intro trivial trivial)
    clear HLs
    cases g8
    · go_wp2_with fail
      go_meet
      rw [show L8 ++ optG false z.m 8 = L8 from List.append_nil _]
      exact ⟨p8, by omega⟩
    · have ri := ri0 rfl
      obtain ⟨mg3, hw, ht, hm, hn, v3⟩ := p8
      have hsz := Nat.le_trans hbase ht.size
      have low : Below base w w3 := ht.below hbase hw.1 (fun g hg => (HMG.out g hg).1)
      obtain ⟨j0, j1, j2, j3, j4, j5, j6, j7, j8, j9, j10, j11, j12, j13, j14, j15, j16, j17, j18, j19, j20, j21, j22, j23, j24, j25, j26, j27, j28⟩ := v3.cells
      have cf := cput_any z.y base b B mg3 L8 w3 hw hsz (by omega) (ZIN w3 low).cm hB hsmall.c ri
      clear ri0 cw
      go_wp2_with fail
      refine cf.mono ?_
      intro e w4 hw4
      obtain ⟨rfl, hp⟩ := PutR.step ht hm hn v3 hwb hw4
      have l9 : (fldF z.m 8).length ≤ 100100 := formC_len ri
      have hp' : PutR w base b mg z (L8 ++ optG true z.m 8) w4 := hp
      have l8 : (L8 ++ optG true z.m 8).length ≤ 100231 := by
          rw [List.length_append, show optG true z.m 8 = fldF z.m 8 from rfl]
          omega
      clear hp hw4 cf hw ht hm v3 low j0 j1 j2 j3 j4 j5 j6 j7 j8 j9 j10 j11 j12 j13 j14 j15 j16 j17 j18 j19 j20 j21 j22 j23 j24 j25 j26 j27 j28
      go_wp2_with fail
      go_meet
      exact ⟨hp', l8⟩
  case rest =>
  obtain ⟨p9, l9⟩ := hcut
  obtain ⟨L9, hL9⟩ : ∃ L, L = L8 ++ optG g8 z.m 8 := ⟨_, rfl⟩
  rw [← hL9] at p9 l9
  have HL9 := hide (And.intro hL9 HG8.out)
  clear hL9 HG8 p8 l8 cw ri0
  obtain ⟨w3, hw3⟩ : ∃ x, x = wc := ⟨_, rfl⟩
  subst hw3
  -- the field 9
  have cw : ∀ W, Calls Tryz.prog 67 #[.int .u16 q, .int .u16 512] W (fun e w' => e = .returned (.bool (q.testBit 9)) ∧ W = w') := fun W => CW W 9 (by decide)
  have ri0 := RI 9 (by decide)
  obtain ⟨g9, hg9⟩ : ∃ g, g = q.testBit 9 := ⟨_, rfl⟩
  rw [← hg9] at cw ri0
  have HG9 := hide hg9
  clear hg9
  go_upto_if 68 with (refine (cw _).mono ?_; rintro e w8 ⟨rfl, rfl⟩)
  go_cut [] (fun wx => PutR w base b mg z (L9 ++ optG g9 z.m 9) wx ∧ (L9 ++ optG g9 z.m 9).length ≤ 200231)
  case first =>
    have HLs := hide (And.intro trivial trivial)
    clear HLs
    cases g9
    · go_wp2_with fail
      go_meet
      rw [show L9 ++ optG false z.m 9 = L9 from List.append_nil _]
      exact ⟨p9, by omega⟩
    · have ri := ri0 rfl
      obtain ⟨mg3, hw, ht, hm, hn, v3⟩ := p9
      have hsz := Nat.le_trans hbase ht.size
      have low : Below base w w3 := ht.below hbase hw.1 (fun g hg => (HMG.out g hg).1)
      obtain ⟨j0, j1, j2, j3, j4, j5, j6, j7, j8, j9, j10, j11, j12, j13, j14, j15, j16, j17, j18, j19, j20, j21, j22, j23, j24, j25, j26, j27, j28⟩ := v3.cells
      have cf := vput_any z.x base b B mg3 L9 w3 hw hsz (by omega) (ZIN w3 low).vw hB hsmall.v ri
      clear ri0 cw
      go_wp2_with fail
      refine cf.mono ?_
      intro e w4 hw4
      obtain ⟨rfl, hp⟩ := PutR.step ht hm hn v3 hwb hw4
      have l9 : (fldF z.m 9).length ≤ 100000 := viewL_len9 ri
      have hp' : PutR w base b mg z (L9 ++ optG true z.m 9) w4 := hp
      have l8 : (L9 ++ optG true z.m 9).length ≤ 200231 := by
          rw [List.length_append, show optG true z.m 9 = fldF z.m 9 from rfl]
          omega
      clear hp hw4 cf hw ht hm v3 low j0 j1 j2 j3 j4 j5 j6 j7 j8 j9 j10 j11 j12 j13 j14 j15 j16 j17 j18 j19 j20 j21 j22 j23 j24 j25 j26 j27 j28
      go_wp2_with fail
      go_meet
      exact ⟨hp', l8⟩
  case rest =>
  obtain ⟨p10, l10⟩ := hcut
  obtain ⟨L10, hL10⟩ : ∃ L, L = L9 ++ optG g9 z.m 9 := ⟨_, rfl⟩
  rw [← hL10] at p10 l10
  have HL10 := hide (And.intro hL10 HG9.out)
  clear hL10 HG9 p9 l9 cw ri0
  obtain ⟨w3, hw3⟩ : ∃ x, x = wc := ⟨_, rfl⟩
  subst hw3
  -- the field 10
  have cw : ∀ W, Calls Tryz.prog 67 #[.int .u16 q, .int .u16 1024] W (fun e w' => e = .returned (.bool (q.testBit 10)) ∧ W = w') := fun W => CW W 10 (by decide)
  have ri0 := RI 10 (by decide)
  obtain ⟨g10, hg10⟩ : ∃ g, g = q.testBit 10 := ⟨_, rfl⟩
  rw [← hg10] at cw ri0
  have HG10 := hide hg10
  clear hg10
  have fin : ∀ g W, g = q.testBit 10 → PutR w base b mg z (L10 ++ optG g z.m 10) W → WroteP w base b mg (formM z.m) (.returned (.tuple #[])) W := by
    intro g W hg hp
    have hf : L10 ++ optG g z.m 10 = formM z.m := by
      unfold formM optF hasF
      rw [HQ.out.2, show bitsM z.m.kind z.m.has = q from HQ.out.1.symm]
      rw [hg, HL10.out.1, HL10.out.2, HL9.out.1, HL9.out.2, HL8.out.1, HL8.out.2, HL7.out.1, HL7.out.2, HL6.out.1, HL6.out.2, HL5.out.1, HL5.out.2, HL4.out.1, HL4.out.2, HL3.out.1, HL3.out.2, HL2.out.1, HL2.out.2, HL1.out.1, HL1.out.2, HL0.out]
      simp only [optG, List.append_assoc]
    rw [hf] at hp
    obtain ⟨mg3, hw, ht, hm, hn, v3⟩ := hp
    exact ⟨rfl, mg3, hw, ht, hm⟩
  have FIN := hide fin
  clear fin
  cases g10
  · have hW := FIN.out false w3 HG10.out (by rw [show L10 ++ optG false z.m 10 = L10 from List.append_nil _]; exact p10)
    have HW := hide hW
    clear hW p10 ri0
    go_wp2_with (refine (cw _).mono ?_; rintro e w8 ⟨rfl, rfl⟩)
    first | go_end0 | refine bodyPost_ret (results_none rfl _ _ _) rfl ?_
    exact HW.out
  · have ri := ri0 rfl
    obtain ⟨mg3, hw, ht, hm, hn, v3⟩ := p10
    have hsz := Nat.le_trans hbase ht.size
    have low : Below base w w3 := ht.below hbase hw.1 (fun g hg => (HMG.out g hg).1)
    obtain ⟨j0, j1, j2, j3, j4, j5, j6, j7, j8, j9, j10, j11, j12, j13, j14, j15, j16, j17, j18, j19, j20, j21, j22, j23, j24, j25, j26, j27, j28⟩ := v3.cells
    have cf := wbytes_any base b mg3 L10 z.A z.n z.c z.l w3 hw hsz (by omega) ((ZIN w3 low).bs.more hB) (by have := hsmall.n; omega)
    rw [← hblen] at cf
    have cf' : Calls Tryz.prog 156 #[.pointer (some ⟨b, 0, none⟩), .slice z.A z.n z.c] w3 (WroteP w3 base b mg3 (L10 ++ optG true z.m 10)) := by
      have e := cf
      rw [hblen] at e
      have e2 : L10 ++ optG true z.m 10 = L10 ++ (shortL z.n ++ z.l) := by rw [← hblen]; rfl
      rw [e2]
      exact e
    clear ri0 cf
    go_wp2_with (refine (cw _).mono ?_; rintro e w8 ⟨rfl, rfl⟩)
    refine cf'.mono ?_
    intro e w4 hw4
    obtain ⟨rfl, hp⟩ := PutR.step ht hm hn v3 hwb hw4
    have hW := FIN.out true w4 HG10.out hp
    have HW := hide hW
    clear hp hw4 cf' hw ht hm v3 low hW j0 j1 j2 j3 j4 j5 j6 j7 j8 j9 j10 j11 j12 j13 j14 j15 j16 j17 j18 j19 j20 j21 j22 j23 j24 j25 j26 j27 j28
    go_wp2
    first | go_end0 | refine bodyPost_ret (results_none rfl _ _ _) rfl ?_
    exact HW.out
end Go.Proofs.YtjmkecaljkcoiaaGreatDoor
