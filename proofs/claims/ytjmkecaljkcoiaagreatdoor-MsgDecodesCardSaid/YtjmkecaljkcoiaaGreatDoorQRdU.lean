import Derived.Test.YtjmkecaljkcoiaaGreatDoorQMsg3
import Derived.Test.YtjmkecaljkcoiaaGreatDoorQOpenC
import Derived.Test.YtjmkecaljkcoiaaGreatDoorQRd1
import Derived.Deep.RegionHeld3
import Derived.Deep.AppendLies
import Derived.Test.YtjmkecaljkcoiaaGreatDoorQCmd4
import Derived.Test.YtjmkecaljkcoiaaGreatDoorQCmd3
import Derived.Deep.RegionLaw
namespace Go.Proofs.YtjmkecaljkcoiaaGreatDoor
open Go.RowKit Go.Maps
set_option linter.unusedVariables false
set_option linter.unusedSimpArgs false
set_option maxRecDepth 100000 in
set_option maxHeartbeats 4000000 in
theorem check10_any (z : Mx) (B : Nat) (w : World) (t : Bool) (h : MxIn w B z) (hs : MSmall z) (hB : B ≤ w.heap.size) (hK : Kinds w) (ht : t = true ↔ MayM z.m) :
    Calls Tryz.prog 52 #[.agg #[.int .i64 z.kind, .int .u16 z.who.i, .int .u32 z.who.k, .int .u64 z.view, .int .u64 z.slot, .int .u64 z.num, .int .i64 z.hops, .int .u32 z.b.r, .int .u16 z.b.p.i, .int .u32 z.b.p.k, .int .u32 z.a.r, .int .u16 z.a.p.i, .int .u32 z.a.p.k, .bool z.has, .int .i64 z.y.kind, .int .u16 z.y.p.i, .int .u32 z.y.p.k, .int .u64 z.y.num, .int .u64 z.y.vn, .slice z.y.A z.y.n z.y.c, .int .u64 z.y.x.id, .slice z.y.x.A z.y.x.m z.y.x.c, .slice z.y.x.B z.y.x.d z.y.x.e, .slice z.y.x.C z.y.x.f z.y.x.g, .int .u64 z.x.id, .slice z.x.A z.x.m z.x.c, .slice z.x.B z.x.d z.x.e, .slice z.x.C z.x.f z.x.g, .slice z.A z.n z.c]] w fun e w' => e = .returned (.int .i64 (ckI t)) ∧ Below w.heap.size w w' := by
  have hbz : Below w.heap.size w (w.alloc (.cells #[.int .i64 z.kind, .int .u16 z.who.i, .int .u32 z.who.k, .int .u64 z.view, .int .u64 z.slot, .int .u64 z.num, .int .i64 z.hops, .int .u32 z.b.r, .int .u16 z.b.p.i, .int .u32 z.b.p.k, .int .u32 z.a.r, .int .u16 z.a.p.i, .int .u32 z.a.p.k, .bool z.has, .int .i64 z.y.kind, .int .u16 z.y.p.i, .int .u32 z.y.p.k, .int .u64 z.y.num, .int .u64 z.y.vn, .slice z.y.A z.y.n z.y.c, .int .u64 z.y.x.id, .slice z.y.x.A z.y.x.m z.y.x.c, .slice z.y.x.B z.y.x.d z.y.x.e, .slice z.y.x.C z.y.x.f z.y.x.g, .int .u64 z.x.id, .slice z.x.A z.x.m z.x.c, .slice z.x.B z.x.d z.x.e, .slice z.x.C z.x.f z.x.g, .slice z.A z.n z.c] 50)) := (Below.refl _ _).alloc (Nat.le_refl _) _
  have v0 := MAt10.mk_ w z
  have CF := fun W (hb : Below w.heap.size w W) => fieldsOf_any z W (hK.later hb)
  have CS := fun W (hb : Below w.heap.size w W) => set10_any z B W (h.below (hb.mono hB)) (Nat.le_trans hB hb.size)
  have CW := fun W (hb : Below w.heap.size w W) => wrong10_any z B W (h.below (hb.mono hB)) hs (Nat.le_trans hB hb.size)
  clear h hs hK
  obtain ⟨q, hq⟩ : ∃ q, q = bitsM z.kind z.has := ⟨_, rfl⟩
  have hq1 : q < 2048 := by rw [hq]; exact bitsM_lt _ _
  have HT := hide (And.intro ht hq)
  rw [← hq] at CF
  clear ht hq
  have hs1 : (w.alloc (.cells #[.int .i64 z.kind, .int .u16 z.who.i, .int .u32 z.who.k, .int .u64 z.view, .int .u64 z.slot, .int .u64 z.num, .int .i64 z.hops, .int .u32 z.b.r, .int .u16 z.b.p.i, .int .u32 z.b.p.k, .int .u32 z.a.r, .int .u16 z.a.p.i, .int .u32 z.a.p.k, .bool z.has, .int .i64 z.y.kind, .int .u16 z.y.p.i, .int .u32 z.y.p.k, .int .u64 z.y.num, .int .u64 z.y.vn, .slice z.y.A z.y.n z.y.c, .int .u64 z.y.x.id, .slice z.y.x.A z.y.x.m z.y.x.c, .slice z.y.x.B z.y.x.d z.y.x.e, .slice z.y.x.C z.y.x.f z.y.x.g, .int .u64 z.x.id, .slice z.x.A z.x.m z.x.c, .slice z.x.B z.x.d z.x.e, .slice z.x.C z.x.f z.x.g, .slice z.A z.n z.c] 50)).heap.size = w.heap.size + 1 := by simp
  generalize hw1 : w.alloc (.cells #[.int .i64 z.kind, .int .u16 z.who.i, .int .u32 z.who.k, .int .u64 z.view, .int .u64 z.slot, .int .u64 z.num, .int .i64 z.hops, .int .u32 z.b.r, .int .u16 z.b.p.i, .int .u32 z.b.p.k, .int .u32 z.a.r, .int .u16 z.a.p.i, .int .u32 z.a.p.k, .bool z.has, .int .i64 z.y.kind, .int .u16 z.y.p.i, .int .u32 z.y.p.k, .int .u64 z.y.num, .int .u64 z.y.vn, .slice z.y.A z.y.n z.y.c, .int .u64 z.y.x.id, .slice z.y.x.A z.y.x.m z.y.x.c, .slice z.y.x.B z.y.x.d z.y.x.e, .slice z.y.x.C z.y.x.f z.y.x.g, .int .u64 z.x.id, .slice z.x.A z.x.m z.x.c, .slice z.x.B z.x.d z.x.e, .slice z.x.C z.x.f z.x.g, .slice z.A z.n z.c] 50) = w1 at *
  have cf := CF w1 hbz
  have j0 := v0.lt
  go_enter Tryz.func52, Tryz.ntmps52
  go_wp2_with (refine wpList_load_msg z w.heap.size rfl (.tmp 1) rfl rfl v0 ?_)
  refine cf.mono ?_
  rintro e w2 ⟨rfl, hb⟩
  have hb2 := hbz.trans (hb.mono hbz.size)
  have v2 := v0.later hb
  have j2 := v2.lt
  clear cf hw1 v0 hb hs1 hbz j0
  by_cases h0 : q = 0
  · have z0 : ((q : Int) == 0) = true := by rw [beq_iff_eq]; omega
    obtain rfl : t = false := not_of_iff HT.out.1 (fun e => e.some (by
      have e2 := HT.out.2
      rw [h0] at e2
      exact e2.symm))
    clear h0 CS CW CF
    go_wp2
    go_ret
    exact ⟨rfl, hb2⟩
  have z0 : ((q : Int) == 0) = false := by rw [beq_eq_false_iff_ne]; omega
  have cs := CS w2 hb2
  unfold SetsP at cs
  go_wp2_with (first | refine wpList_load_msg z w.heap.size rfl (.tmp 1) rfl rfl v2 ?_ | refine wpList_load_msg_yes z w.heap.size rfl (.tmp 1) rfl rfl v2 ?_)
  refine cs.mono ?_
  rintro e w3 ⟨s, rfl, hs1, hsb, hb⟩
  have hb3 := hb2.trans (hb.mono hb2.size)
  have v3 := v2.later hb
  clear cs v2 hb j2
  have j3 := v3.lt
  obtain ⟨x, hx⟩ : ∃ x : Nat, x = s &&& (65535 - q) := ⟨_, rfl⟩
  have e1 := u16_andNot_nat s q (by omega) (by omega)
  rw [← hx] at e1
  have HS := hide (And.intro hsb hx)
  clear hsb hx
  by_cases h1 : x = 0
  case neg =>
    have z1 : ((x : Int) != 0) = true := by rw [bne_iff_ne]; omega
    obtain rfl : t = false := not_of_iff HT.out.1 (fun e => h1 (by
      rw [HS.out.2, HT.out.2, andNot0_iff hs1 (bitsM_lt _ _)]
      intro i hi hb
      have h2 := (e.each i hi).2
      cases hh : (bitsM z.kind z.has).testBit i
      · exact absurd (h2 hh) ((HS.out.1 i hi).1 hb)
      · rfl))
    clear h1 CS CW CF
    go_wp2
    go_ret
    exact ⟨rfl, hb3⟩
  have z1 : ((x : Int) != 0) = false := by rw [h1]; rfl
  have cs := CW w3 hb3
  unfold SetsP at cs
  go_wp2_with (first | refine wpList_load_msg z w.heap.size rfl (.tmp 1) rfl rfl v3 ?_ | refine wpList_load_msg_yes z w.heap.size rfl (.tmp 1) rfl rfl v3 ?_)
  refine cs.mono ?_
  rintro e w4 ⟨u, rfl, hu1, hub, hb⟩
  have hb4 := hb3.trans (hb.mono hb3.size)
  clear cs v3 hb j3
  obtain ⟨y, hy⟩ : ∃ y : Nat, y = u &&& q := ⟨_, rfl⟩
  have e2 := u16_and_nat u q (by omega) (by omega)
  rw [← hy] at e2
  have hm := may_bits (m := z.m) hs1 hu1 HS.out.1 hub
  have HU := hide (And.intro hub (And.intro hy hm))
  clear hub hy hm
  by_cases h2 : y = 0
  · have z2 : ((y : Int) != 0) = false := by rw [h2]; rfl
    obtain rfl : t = true := HT.out.1.2 (HU.out.2.2.2 ⟨by
      have e := HT.out.2
      rw [← show q = bitsM z.m.kind z.m.has from e]
      exact h0, by
      rw [← show q = bitsM z.m.kind z.m.has from HT.out.2, ← HS.out.2]
      exact h1, by
      rw [← show q = bitsM z.m.kind z.m.has from HT.out.2, ← HU.out.2.1]
      exact h2⟩)
    clear h0 h1 h2 CS CW CF
    go_wp2
    go_ret
    exact ⟨rfl, hb4⟩
  · have z2 : ((y : Int) != 0) = true := by rw [bne_iff_ne]; omega
    obtain rfl : t = false := not_of_iff HT.out.1 (fun e => h2 (by
      have e2 := (HU.out.2.2.1 e).2.2
      rw [← show q = bitsM z.m.kind z.m.has from HT.out.2, ← HU.out.2.1] at e2
      exact e2))
    clear h0 h1 h2 CS CW CF
    go_wp2
    go_ret
    exact ⟨rfl, hb4⟩
end Go.Proofs.YtjmkecaljkcoiaaGreatDoor
namespace Go.Proofs.YtjmkecaljkcoiaaGreatDoor
open Go.RowKit Go.Maps
set_option linter.unusedVariables false
set_option linter.unusedSimpArgs false
theorem rdnum_tot (b most : Nat) (s : RS) (w : World) (h : RdAt w b s.l s.t) (hm : most < 18446744073709551616) :
    Calls Tryz.prog 103 #[.pointer (some ⟨b, 0, none⟩), .int .u64 most] w (ReadsP w b (.int .u64 ((numS most s).1 : Nat)) (numS most s).2.l (numS most s).2.t) := by
  obtain ⟨l, t⟩ := s
  dsimp only at h
  by_cases ht : t = 0
  · subst ht
    by_cases hE : numE l most = 0
    · have e : numS most ⟨l, 0⟩ = ((getF l).1, ⟨l.drop (getF l).2.1, 0⟩) := by unfold numS; rw [if_pos rfl, if_pos hE]
      rw [e]
      exact rdnum_ok b l most w h hm hE
    · have e : numS most ⟨l, 0⟩ = (0, ⟨l, numE l most⟩) := by unfold numS; rw [if_pos rfl, if_neg hE]
      rw [e]
      exact rdnum_bad b l most w h hm hE
  · rw [numS_stop (s := ⟨l, t⟩) ht]
    exact rdnum_stop b t l most w h ht
theorem rdpid_tot (b : Nat) (s : RS) (w : World) (h : RdAt w b s.l s.t) :
    Calls Tryz.prog 104 #[.pointer (some ⟨b, 0, none⟩)] w (ReadsP w b (.agg #[.int .u16 ((pidQ s).1.i : Int), .int .u32 ((pidQ s).1.k : Int)]) (pidQ s).2.l (pidQ s).2.t) := by
  obtain ⟨l, t⟩ := s
  dsimp only at h
  by_cases ht : t = 0
  · subst ht
    by_cases hE : (pidG l).2.2.2 = 0
    · have e : pidQ ⟨l, 0⟩ = (prOf l, ⟨l.drop (pidG l).2.2.1, 0⟩) := by unfold pidQ; rw [if_pos rfl, if_pos hE]
      rw [e]
      exact rdpid_ok b l w h hE
    · have e : pidQ ⟨l, 0⟩ = (default, ⟨l, (pidG l).2.2.2⟩) := by unfold pidQ; rw [if_pos rfl, if_neg hE]
      rw [e]
      exact rdpid_bad b l w h hE
  · rw [pidQ_stop (s := ⟨l, t⟩) ht]
    exact rdpid_stop b t l w h ht
def BytT (w : World) (b : Nat) (r : List UInt8 × RS) (e : Ending) (w' : World) : Prop := ∃ A c, e = .returned (.slice A r.1.length c) ∧ OwnB w' w.heap.size (.slice A r.1.length c) r.1.length r.1 ∧ RdAt w' b r.2.l r.2.t ∧ Turn w w' b none
theorem rdbytes_tot (b : Nat) (most : Nat) (s : RS) (w : World) (h : RdAt w b s.l s.t) (hm : most ≤ 1000000) (hl : s.l.length ≤ 100000000000) :
    Calls Tryz.prog 109 #[.pointer (some ⟨b, 0, none⟩), .int .i64 most] w (BytT w b (bytS most s)) := by
  obtain ⟨l, t⟩ := s
  dsimp only at h hl
  have hmf : mostF (most : Int) = most := by unfold mostF; simp
  by_cases ht : t = 0
  · subst ht
    refine (rdbytes_any b l most w h (by omega) (by omega) hl).mono fun e w' hw => ?_
    rw [hmf] at hw
    rcases hw with ⟨hE, v, h1, ⟨A, c, h2, h3⟩, h4, h5⟩ | ⟨hE, h1, h2, h3⟩
    · have e : bytS most ⟨l, 0⟩ = (bytV l, ⟨bytR l, 0⟩) := by unfold bytS; rw [if_pos rfl, if_pos hE]
      rw [e]
      exact ⟨A, c, by rw [h1, h2], h3, h4, h5⟩
    · have e : bytS most ⟨l, 0⟩ = ([], ⟨l, bytE l most⟩) := by unfold bytS; rw [if_pos rfl, if_neg hE]
      rw [e]
      exact ⟨none, 0, h1, OwnB.nil_ _ _, h2, h3⟩
  · rw [bytS_stop (s := ⟨l, t⟩) ht]
    exact (rdbytes_stop b t l most w h ht).mono fun e w' ⟨h1, h2, h3⟩ => ⟨none, 0, h1, OwnB.nil_ _ _, h2, h3⟩
def PidsT (w : World) (b : Nat) (r : List Pr × RS) (e : Ending) (w' : World) : Prop := ∃ A c, e = .returned (.slice A r.1.length c) ∧ OwnP w' w.heap.size (.slice A r.1.length c) r.1.length r.1 ∧ RdAt w' b r.2.l r.2.t ∧ Turn w w' b none
theorem rdpids_tot (b : Nat) (most : Nat) (s : RS) (w : World) (h : RdAt w b s.l s.t) (hm : most ≤ 1000000) :
    Calls Tryz.prog 170 #[.pointer (some ⟨b, 0, none⟩), .int .i64 most] w (PidsT w b (pidsS most s)) := by
  obtain ⟨l, t⟩ := s
  dsimp only at h
  have hmf : mostF (most : Int) = most := by unfold mostF; simp
  by_cases ht : t = 0
  · subst ht
    refine (rdpids_any b l most w h (by omega) (by omega)).mono fun e w' hw => ?_
    rw [hmf] at hw
    rcases hw with ⟨hE, v, h1, ⟨A, c, h2, h3⟩, h4, h5⟩ | ⟨hE, h1, h2, h3⟩
    · have e : pidsS most ⟨l, 0⟩ = (psV l, ⟨psR l, 0⟩) := by unfold pidsS; rw [if_pos rfl, if_pos hE]
      rw [e]
      exact ⟨A, c, by rw [h1, h2], h3, h4, h5⟩
    · have e : pidsS most ⟨l, 0⟩ = ([], ⟨l, psE l most⟩) := by unfold pidsS; rw [if_pos rfl, if_neg hE]
      rw [e]
      exact ⟨none, 0, h1, OwnE.nil_ _ _, h2, h3⟩
  · rw [pidsS_stop (s := ⟨l, t⟩) ht]
    exact (rdpids_stop b t l most w h ht).mono fun e w' ⟨h1, h2, h3⟩ => ⟨none, 0, h1, OwnE.nil_ _ _, h2, h3⟩
end Go.Proofs.YtjmkecaljkcoiaaGreatDoor
namespace Go.Proofs.YtjmkecaljkcoiaaGreatDoor
open Go.RowKit Go.Maps
set_option linter.unusedVariables false
set_option linter.unusedSimpArgs false
end Go.Proofs.YtjmkecaljkcoiaaGreatDoor
namespace Go.Proofs.YtjmkecaljkcoiaaGreatDoor
open Go.RowKit Go.Maps
set_option linter.unusedVariables false
set_option linter.unusedSimpArgs false
structure GetS (w W : World) (b : Nat) (rest : List UInt8) (y : Vw) : Prop where
  v : VAt W (w.heap.size + 1) y
  z : VAt W w.heap.size zeroX
  own : VwOwn W (w.heap.size + 1 + 1) y
  rd : RdAt W b rest 0
  turn : Turn w W b none
  sz : w.heap.size + 1 + 1 ≤ W.heap.size
theorem VwOwn.turnLow {w w' : World} {base b : Nat} {x : Vw} (h : VwOwn w base x) (ht : Turn w w' b none) (hb : b < base) : VwOwn w' base x :=
  ⟨OwnE.turnLow h.ms ht hb, OwnE.turnLow h.lv ht hb, fun y hy => OwnE.turnLow (h.each y hy) ht hb, OwnE.turnLow h.dr ht hb⟩
theorem VwOwn.setFar {w : World} {base : Nat} {x : Vw} (h : VwOwn w base x) {a : Addr} (u : Value) (ha : a.block < base) : VwOwn (w.setCell a u) base x :=
  ⟨OwnE.set_far h.ms u ha, OwnE.set_far h.lv u ha, fun y hy => OwnE.set_far (h.each y hy) u ha, OwnE.set_far h.dr u ha⟩
section
variable {w W W' : World} {b : Nat} {rest rest' : List UInt8} {y : Vw}
theorem GetS.read (h : GetS w W b rest y) (hb : b < w.heap.size) (ht : Turn W W' b none) (hr : RdAt W' b rest' 0) : GetS w W' b rest' y :=
  ⟨h.v.turn ht (by omega) (by simp), h.z.turn ht (by omega) (by simp), h.own.turnLow ht (by omega), hr, h.turn.trans ht (Mov.refl _ _), Nat.le_trans h.sz ht.size⟩
theorem GetS.start (hb : b < w.heap.size) (h : RdAt w b rest 0) : GetS w ((w.alloc (.cells #[.int .u64 0, .slice none 0 0, .slice none 0 0, .slice none 0 0] 26)).alloc (.cells #[.int .u64 0, .slice none 0 0, .slice none 0 0, .slice none 0 0] 26)) b rest zeroX := by
  have v1 := VAt.mk_ (w.alloc (.cells #[.int .u64 0, .slice none 0 0, .slice none 0 0, .slice none 0 0] 26)) zeroX
  rw [World.size_alloc] at v1
  exact ⟨v1, (VAt.mk_ w zeroX).alloc _, zeroX_own _ _, (h.alloc _).alloc _, ((Turn.refl w b none).alloc _).alloc _, by simp⟩
theorem GetS.put0 (h : GetS w W b rest y) (hb : b < w.heap.size) (id : Nat) : GetS w (W.setCell ⟨w.heap.size + 1, 0, none⟩ (.int .u64 id)) b rest ⟨id, y.A, y.m, y.c, y.l, y.B, y.d, y.e, y.q, y.C, y.f, y.g, y.r⟩ :=
  ⟨heap_setCell_same W (w.heap.size + 1) 0 _ _ _ h.v, h.z.far _ (by simp), ⟨(h.own.setFar _ (by simp)).ms, (h.own.setFar _ (by simp)).lv, (h.own.setFar _ (by simp)).each, (h.own.setFar _ (by simp)).dr⟩, h.rd.other (by simp; omega) _, h.turn.setNew (by simp) _, by simp; exact h.sz⟩
theorem GetS.put1 (h : GetS w W b rest y) (hb : b < w.heap.size) {A : Option Addr} {m c : Nat} {l : List Pr} (ho : OwnE 44 prC 2 W (w.heap.size + 1 + 1) (.slice A m c) m l) : GetS w (W.setCell ⟨w.heap.size + 1, 1, none⟩ (.slice A m c)) b rest ⟨y.id, A, m, c, l, y.B, y.d, y.e, y.q, y.C, y.f, y.g, y.r⟩ :=
  ⟨h.v.set1 A m c l, h.z.far _ (by simp), ⟨OwnE.set_far ho _ (by simp), (h.own.setFar _ (by simp)).lv, (h.own.setFar _ (by simp)).each, (h.own.setFar _ (by simp)).dr⟩, h.rd.other (by simp; omega) _, h.turn.setNew (by simp) _, by simp; exact h.sz⟩
theorem GetS.put3 (h : GetS w W b rest y) (hb : b < w.heap.size) {A : Option Addr} {m c : Nat} {l : List Pr} (ho : OwnE 44 prC 2 W (w.heap.size + 1 + 1) (.slice A m c) m l) : GetS w (W.setCell ⟨w.heap.size + 1, 3, none⟩ (.slice A m c)) b rest ⟨y.id, y.A, y.m, y.c, y.l, y.B, y.d, y.e, y.q, A, m, c, l⟩ :=
  ⟨h.v.set3 A m c l, h.z.far _ (by simp), ⟨(h.own.setFar _ (by simp)).ms, (h.own.setFar _ (by simp)).lv, (h.own.setFar _ (by simp)).each, OwnE.set_far ho _ (by simp)⟩, h.rd.other (by simp; omega) _, h.turn.setNew (by simp) _, by simp; exact h.sz⟩
theorem GetS.leaf (h : GetS w W b rest y) (hb : b < w.heap.size) {A : Option Addr} {m c : Nat} {l : List Pr} (ho : OwnE 44 prC 2 W (w.heap.size + 1 + 1) (.slice A m c) m l) {T : TypeId} {W4 : World} {B2 : Option Addr} {n2 e2 : Nat}
    (hg : (W.alloc (.cells #[.slice A m c] T)).grownBy W4 (Value.slice y.B y.d y.e).ownBlock) (hn : OwnE 23 lfC 1 W4 (w.heap.size + 1 + 1) (.slice B2 n2 e2) n2 (y.q ++ [⟨A, m, c, l⟩])) :
    GetS w (W4.setCell ⟨w.heap.size + 1, 2, none⟩ (.slice B2 n2 e2)) b rest ⟨y.id, y.A, y.m, y.c, y.l, B2, n2, e2, y.q ++ [⟨A, m, c, l⟩], y.C, y.f, y.g, y.r⟩ := by
  have hl : Below W.heap.size W (W.alloc (.cells #[.slice A m c] T)) := (Below.refl _ _).alloc (Nat.le_refl _) _
  have o1 := h.own.later hl
  have hne : ∀ g, (Value.slice y.B y.d y.e).ownBlock = some g → w.heap.size + 1 + 1 ≤ g := fun g hg => (OwnE.lt h.own.lv g hg).1
  have k1 := OwnE.kept_by o1.lv o1.ms (by decide) hg
  have k2 := OwnE.kept_by o1.lv o1.dr (by decide) hg
  have k3 := OwnE.kept_by o1.lv (OwnE.later ho hl) (by decide) hg
  have hs := h.sz
  have hs1 := hl.size
  have v4 : VAt W4 (w.heap.size + 1) y := (hg.block _ (by omega) (fun e => by have := hne _ e.symm; omega)).trans (h.v.later hl)
  have z4 : VAt W4 w.heap.size zeroX := (hg.block _ (by omega) (fun e => by have := hne _ e.symm; omega)).trans (h.z.later hl)
  refine ⟨v4.set2 B2 n2 e2 _, z4.far _ (by simp), ⟨OwnE.set_far k1 _ (by simp), OwnE.set_far hn _ (by simp), fun u hu => ?_, OwnE.set_far k2 _ (by simp)⟩, ((h.rd.alloc _).grown hg (fun g e => by have := hne g e; omega)).other (by simp; omega) _, ((h.turn.alloc _).grownNew hg (fun g e => by have := hne g e; omega)).setNew (by simp) _, ?_⟩
  · dsimp only at hu
    rw [List.mem_append, List.mem_singleton] at hu
    rcases hu with hu | rfl
    · exact OwnE.set_far (OwnE.kept_by o1.lv (o1.each u hu) (by decide) hg) _ (by simp)
    · exact OwnE.set_far k3 _ (by simp)
  · have := hg.size
    simp
    omega
end
end Go.Proofs.YtjmkecaljkcoiaaGreatDoor
namespace Go.Proofs.YtjmkecaljkcoiaaGreatDoor
open Go.RowKit Go.Maps
set_option linter.unusedVariables false
set_option linter.unusedSimpArgs false
theorem step_append_e {α : Type} {enc : α → List Value} {k : Nat} {P : Program} {ops : Array Oper} {o : Oper} {a : Act} {K : Act → World → Prop} {Q : Exit → Act → World → Prop} {E' : Prop} (w : World) (hg : o.guard = none) (s x : Operand) (S : TypeId)
    (hop : o.op = Op.call { callee := Callee.builtin Builtin.append, args := #[s, x], argTypes := #[S, S] })
    (E : TypeId) (i : TypeInfo) (z : Value) (bytes : Nat) (hS : P.underlying S = some (.slice E)) (hi : P.info? E = some i) (hz0 : i.zero = some z) (hz1 : i.size = k) (hz2 : i.bytes = bytes) (hz : z.cells.size = k) (H : EncOk enc k)
    (base n : Nat) (v : Value) (l : List α) (hs : a.eval s = v) (hown : OwnE E enc k w base v n l)
    (B : Nat) (A : Option Addr) (m c : Nat) (l2 : List α) (hx : a.eval x = .slice A m c) (hr : Es enc w B A m l2) (b0 : n + m ≤ maxLen) (b1 : (n + m) * bytes ≤ 140737488355328) (hBw : base ≤ w.heap.size)
    (hK : ∀ A' c' w', OwnE E enc k w' base (.slice A' (n + m) c') (n + m) (l ++ l2) → w.heap.size ≤ w'.heap.size → w.grownBy w' v.ownBlock → K (a.put o.dst (.slice A' (n + m) c')) w') :
    if Region.wanted o (yielded ops a.tmps) = true then Oper.wp P o a w K Q else E' := by
  have hw : Region.wanted o (yielded ops a.tmps) = true := by simp [Region.wanted, hg]
  rw [if_pos hw]
  obtain ⟨v', w', hrun, r1, r2, r3, r4⟩ := run_append_e w S o.type E i z bytes hS hi hz0 hz1 hz2 hz H base n v l hown B A m c l2 hr b0 b1 0 w (Below.refl _ _) (Nat.zero_le _) hBw
  obtain ⟨A', c', rfl⟩ := r1.shape
  unfold Oper.wp
  simp [execOp, hop, resolve, invoke, builtin, hs, hx, hrun, Result.andThen]
  exact hK _ _ w' r1 r3 r4
def VGetP (w : World) (b : Nat) (v : Vi) (t : List UInt8) (e : Ending) (w' : World) : Prop := ∃ y : Vw, e = .returned (.agg #[.int .u64 y.id, .slice y.A y.m y.c, .slice y.B y.d y.e, .slice y.C y.f y.g]) ∧ y.v = v ∧ VwOwn w' w.heap.size y ∧ VSmall y ∧ RdAt w' b t 0 ∧ Turn w w' b none
def LvS (w W : World) (b : Nat) (v : Vi) (t : List UInt8) (j : Nat) : Prop :=
  ∃ A c B e q, GetS w W b (lvsL v.mem (v.lvs.drop j) ++ (someL v.mem v.ldr ++ t)) ⟨v.id, A, v.mem.length, c, v.mem, B, j, e, q, none, 0, 0, []⟩ ∧ q.map Lf.l = v.lvs.take j ∧ ∀ y ∈ q, y.m ≤ 40
end Go.Proofs.YtjmkecaljkcoiaaGreatDoor
namespace Go.Proofs.YtjmkecaljkcoiaaGreatDoor
open Go.RowKit Go.Maps
set_option linter.unusedVariables false
set_option linter.unusedSimpArgs false
def SomInv (mem : List Pr) (N : Nat) (s0 : RS) (n : Nat) (acc : List Pr) (s : RS) : Prop :=
  (s.t = 0 ∧ somR mem N s0 = (acc ++ (somR mem n s).1, (somR mem n s).2)) ∨ (s.t ≠ 0 ∧ (somR mem N s0).2 = s)
theorem SomInv.start (mem : List Pr) (N : Nat) (s0 : RS) (h : s0.t ≠ 0 → N = 0) : SomInv mem N s0 N [] s0 := by
  by_cases h0 : s0.t = 0
  · exact .inl ⟨h0, rfl⟩
  · obtain rfl := h h0
    exact .inr ⟨h0, rfl⟩
theorem SomInv.step {mem : List Pr} {N n : Nat} {s0 s : RS} {acc : List Pr} (h : SomInv mem N s0 (n + 1) acc s) : SomInv mem N s0 n (acc ++ [mem.getD (numS (mem.length - 1) s).1 default]) (numS (mem.length - 1) s).2 := by
  rcases h with ⟨h0, h1⟩ | ⟨h0, h1⟩
  · rw [somR] at h1
    by_cases hr : (numS (mem.length - 1) s).2.t = 0
    · rw [if_pos hr] at h1
      exact .inl ⟨hr, by rw [h1]; simp⟩
    · rw [if_neg hr] at h1
      exact .inr ⟨hr, by rw [h1]⟩
  · rw [numS_stop h0]
    exact .inr ⟨h0, h1⟩
theorem SomInv.done {mem : List Pr} {N : Nat} {s0 s : RS} {acc : List Pr} (h : SomInv mem N s0 0 acc s) : (somR mem N s0).2 = s ∧ (s.t = 0 → acc = (somR mem N s0).1) := by
  rcases h with ⟨h0, h1⟩ | ⟨h0, h1⟩
  · rw [h1]
    simp [somR]
  · exact ⟨h1, fun e => absurd e h0⟩
def SomT (w : World) (b : Nat) (r : List Pr × RS) (e : Ending) (w' : World) : Prop :=
  ∃ A c q, e = .returned (.slice A (List.length q) c) ∧ OwnP w' w.heap.size (.slice A (List.length q) c) q.length q ∧ q.length ≤ 24 ∧ RdAt w' b r.2.l r.2.t ∧ Turn w w' b none ∧ (r.2.t = 0 → q = r.1)
set_option maxRecDepth 100000 in
set_option maxHeartbeats 4000000 in
theorem getsome_tot (b n c : Nat) (A : Option Addr) (mem : List Pr) (s : RS) (w : World) (h : RdAt w b s.l s.t) (hM : ∀ W, Turn w W b none → Es prC W W.heap.size A n mem) (hn : n ≤ 40) :
    Calls Tryz.prog 171 #[.pointer (some ⟨b, 0, none⟩), .slice A n c] w (SomT w b (someS mem s)) := by
  obtain ⟨i0, hi, hz0, hz1, hz2⟩ := info_parts info_pid
  have hmn := (hM w (Turn.refl _ _ _)).len
  have hlt := h.lt
  have cn : Calls Tryz.prog 103 #[.pointer (some ⟨b, 0, none⟩), .int .u64 24] w (ReadsP w b (.int .u64 ((numS 24 s).1 : Nat)) (numS 24 s).2.l (numS 24 s).2.t) := rdnum_tot b 24 s w h (by decide)
  have hle := numS_le 24 s
  have hz := @numS_zero 24 s
  have hS : someS mem s = if (numS 24 s).1 = 0 then ([], (numS 24 s).2) else if mem = [] then ([], ⟨(numS 24 s).2.l, 3⟩) else somR mem (numS 24 s).1 (numS 24 s).2 := rfl
  generalize someS mem s = RES at *
  obtain ⟨N, hN⟩ : ∃ N, N = (numS 24 s).1 := ⟨_, rfl⟩
  obtain ⟨s1, hs1⟩ : ∃ s1, s1 = (numS 24 s).2 := ⟨_, rfl⟩
  rw [← hN, ← hs1] at cn
  rw [← hN, ← hs1] at hS
  rw [← hN] at hle
  rw [← hN, ← hs1] at hz
  clear hN hs1 h
  have HM := hide hM
  have HS := hide hS
  have HZ := hide hz
  clear hM hS hz
  go_enter Tryz.func171, Tryz.ntmps171
  go_wp2_with fail
  refine cn.mono ?_
  rintro e w2 ⟨rfl, h2, ht2⟩
  clear cn
  by_cases hm0 : n = 0
  · subst hm0
    have hme : mem = [] := List.eq_nil_of_length_eq_zero hmn
    by_cases hN0 : N = 0
    · subst hN0
      have hw : SomT w b RES (.returned (.slice none 0 0)) w2 := ⟨none, 0, [], rfl, OwnE.nil_ _ _, Nat.zero_le _, by rw [HS.out, if_pos rfl]; exact h2, ht2, fun _ => by rw [HS.out, if_pos rfl]⟩
      have HW := hide hw
      clear hw h2 ht2 hme
      go_wp2
      go_loopw [5, 8] (fun v i wr => v = .slice none 0 0 ∧ i = .int .u64 ((0 : Nat) : Int) ∧ wr = w2) (fun _ i _ => 0)
      case atStart => exact ⟨rfl, rfl, rfl⟩
      case round =>
        obtain ⟨rfl, rfl, rfl⟩ := hrel
        go_wp2
        go_ret
        exact HW.out
    · have ht0 : s1.t = 0 := by
        by_cases e : s1.t = 0
        · exact e
        · exact absurd (HZ.out e) hN0
      rw [ht0] at h2
      have cs : Calls Tryz.prog 161 #[.pointer (some ⟨b, 0, none⟩), .int .i64 3] w2 (ReadsP w2 b (.tuple #[]) s1.l 3) := stop_first b s1.l 3 w2 h2
      have x1 : decide ((0 : Int) < (N : Int)) = true := decide_eq_true (by omega)
      have x2 : 0 < N := by omega
      have HN := hide hN0
      clear hN0 ht0
      go_wp2
      go_loopw [5, 8] (fun v i wr => v = .slice none 0 0 ∧ i = .int .u64 ((0 : Nat) : Int) ∧ wr = w2) (fun _ i _ => 0)
      case atStart => exact ⟨rfl, rfl, rfl⟩
      case round =>
        obtain ⟨rfl, rfl, rfl⟩ := hrel
        go_wp2_with fail
        refine cs.mono ?_
        rintro e w3 ⟨rfl, h3, ht3⟩
        have hw : SomT w b RES (.returned (.slice none 0 0)) w3 := ⟨none, 0, [], rfl, OwnE.nil_ _ _, Nat.zero_le _, by rw [HS.out, if_neg HN.out, if_pos hme]; exact h3, ht2.trans ht3 (Mov.refl _ _), fun _ => by rw [HS.out, if_neg HN.out, if_pos hme]⟩
        have HW := hide hw
        clear hw h3 ht3 cs hme
        go_wp2
        go_ret
        exact HW.out
  have hme : mem ≠ [] := fun e => hm0 (by rw [← hmn, e]; rfl)
  have I0 := SomInv.start mem N s1 HZ.out
  go_wp2
  go_loopw [5, 8] (fun v i wr => ∃ (j : Nat) (A' : Option Addr) (c' : Nat) (q : List Pr) (s' : RS), j ≤ N ∧ i = .int .u64 j ∧ v = .slice A' j c' ∧ OwnP wr w.heap.size (.slice A' j c') j q ∧ RdAt wr b s'.l s'.t ∧ Turn w wr b none ∧ SomInv mem N s1 (N - j) q s') (fun _ i _ => N - (intOf i).toNat)
  case atStart => exact ⟨0, none, 0, [], s1, Nat.zero_le _, rfl, rfl, OwnE.nil_ _ _, h2, ht2, I0⟩
  case round =>
    clear h2 ht2 I0
    obtain ⟨j, A', c', q, s', hj, rfl, rfl, hO, hR, hT, hI⟩ := hrel
    have hsz := hT.size
    by_cases hjl : j < N
    · obtain ⟨m, hm⟩ : ∃ m, n = m + 1 := ⟨n - 1, by omega⟩
      obtain ⟨i, hi'⟩ : ∃ i, N - j = i + 1 := ⟨N - j - 1, by omega⟩
      have e0 : N - (j + 1) = i := by omega
      rw [hi'] at hI
      have hst := hI.step
      rw [hmn, hm, Nat.add_sub_cancel] at hst
      have cp := rdnum_tot b m s' wr hR (by omega)
      have hk := numS_le m s'
      obtain ⟨k, hke⟩ : ∃ k, k = (numS m s').1 := ⟨_, rfl⟩
      obtain ⟨s2, hs2⟩ : ∃ s2, s2 = (numS m s').2 := ⟨_, rfl⟩
      rw [← hke, ← hs2] at cp
      rw [← hke, ← hs2] at hst
      rw [← hke] at hk
      have e1 : ((n : Int) == 0) = false := by simp only [beq_eq_false_iff_ne, ne_eq]; omega
      have e2 : (n : Int) - 1 = (m : Int) := by omega
      have e3 : IntKind.u64.wrap (m : Int) = (m : Int) := by rw [IntKind.wrap_u64]; omega
      have e4 : IntKind.u64.wrap ((j : Int) + 1) = ((j + 1 : Nat) : Int) := by rw [IntKind.wrap_u64]; omega
      have x1 : (0 : Int) ≤ (k : Int) := by omega
      have x2 : (k : Int) < (n : Int) := by omega
      have x3 : k < n := by omega
      have HST := hide hst
      have E0 := hide e0
      clear hst hke hR hm hI hi' hs2 e0 hme
      go_wp2_with fail
      refine cp.mono ?_
      rintro e w3 ⟨rfl, h3, ht3⟩
      have hO3 := hO.turnLow ht3 hlt
      have hT3 := hT.trans ht3 (Mov.refl _ _)
      have hs3 := hT3.size
      obtain ⟨ad, hl2, rfl, hbl, hc⟩ := (HM.out w3 hT3).at_ prOk x3
      obtain ⟨p, hp⟩ : ∃ p, p = mem[k] := ⟨_, rfl⟩
      have hpd : mem.getD k default = p := by rw [List.getD_eq_getElem?_getD, List.getElem?_eq_getElem hl2, hp]; rfl
      rw [← hp] at hc
      obtain ⟨c0, c1⟩ := pr_at hc
      have HP := hide hpd
      clear cp hO hT hc hbl ht3 hp hpd
      go_wp2_with (at_builtin; refine wp_append_e _ rfl (.tmp 15) (.tmp 25) 23 rfl 44 i0 _ 8 Tryz.underlying23 hi hz0 ‹_› hz2 rfl prOk w.heap.size j _ q rfl (hO3.alloc _) (w3.heap.size + 1) _ 1 1 [p] rfl (es_pr w3 p _) (by unfold maxLen; omega) (by omega) 0 _ (Below.refl _ _) (Nat.zero_le _) (by simp; omega) ?_; intro A2 c2 w4 r1 r2 r3 r4; refine Hid.out ?_)
      have r5 : (w3.alloc (.cells #[.int .u16 p.i, .int .u32 p.k] 44)).grownBy w4 (Value.slice A' j c').ownBlock := r4
      have r6 : OwnP w4 w.heap.size (.slice A2 (j + 1) c2) (j + 1) (q ++ [p]) := r1
      have hT4 := (hT3.alloc (.cells #[.int .u16 p.i, .int .u32 p.k] 44)).grownNew r5 (fun g hg => (hO3.lt g hg).1)
      have hR4 := (h3.alloc (.cells #[.int .u16 p.i, .int .u32 p.k] 44)).grown r5 (fun g hg => by have := (hO3.lt g hg).1; omega)
      have hI4 : SomInv mem N s1 (N - (j + 1)) (q ++ [p]) s2 := by have := HST.out; rw [HP.out] at this; rw [E0.out]; exact this
      have HR := hide (And.intro r6 (And.intro hR4 (And.intro hT4 hI4)))
      refine Lib.hid ?_
      clear r1 r2 r3 r4 r5 r6 hT4 hR4 hO3 hT3 h3 HST HP c0 c1 hI4
      go_wp2_with fail
      go_roundw
      case rel => exact ⟨j + 1, A2, c2, q ++ [p], s2, by omega, by go_num, rfl, HR.out⟩
      case measure => simp [intOf]; omega
    · have hjj : j = N := by omega
      subst hjj
      rw [Nat.sub_self] at hI
      obtain ⟨d1, d2⟩ := hI.done
      have hlq := OwnE.len prOk hO
      have hw : SomT w b RES (.returned (.slice A' j c')) wr := by
        by_cases hN0 : j = 0
        · subst hN0
          have hq : q = [] := List.eq_nil_of_length_eq_zero hlq
          subst hq
          have e5 : s' = s1 := by rw [← d1]; rfl
          rw [e5] at hR
          exact ⟨A', c', [], rfl, hO, Nat.zero_le _, by rw [HS.out, if_pos rfl]; exact hR, hT, fun _ => by rw [HS.out, if_pos rfl]⟩
        · have e5 : RES = somR mem j s1 := by rw [HS.out, if_neg hN0, if_neg hme]
          subst hlq
          exact ⟨A', c', q, rfl, hO, hle, by rw [e5, d1]; exact hR, hT, fun e => by rw [e5] at e ⊢; rw [d1] at e; exact d2 e⟩
      have HW := hide hw
      clear hw hO hR hT hI d1 d2 hlq
      go_wp2
      go_ret
      exact HW.out
end Go.Proofs.YtjmkecaljkcoiaaGreatDoor
