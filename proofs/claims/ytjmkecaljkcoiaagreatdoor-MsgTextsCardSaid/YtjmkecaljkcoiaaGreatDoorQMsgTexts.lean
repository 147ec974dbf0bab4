import Derived.Test.YtjmkecaljkcoiaaGreatDoorCards
import Derived.Test.YtjmkecaljkcoiaaGreatDoorTie
import Derived.WalkKit
import Derived.ProofKit
import Derived.OpenShut
import Derived.ShutString
import Derived.ChangeOld
import Derived.Below
import Derived.Deep.DeepHandedRow
import Derived.Deep.DeepWitnessRowRef
import Derived.Lib.LaidTab
import Derived.LaidMore
import Derived.Test.YtjmkecaljkcoiaaGreatDoorQOpenF
import Derived.Test.YtjmkecaljkcoiaaGreatDoorQOpenMg
import Derived.Test.YtjmkecaljkcoiaaGreatDoorQViewT
import Derived.Test.YtjmkecaljkcoiaaGreatDoorQLaidP
import Derived.Test.YtjmkecaljkcoiaaGreatDoorQMtB
import Derived.Test.YtjmkecaljkcoiaaGreatDoorQMtC
import Derived.Test.YtjmkecaljkcoiaaGreatDoorQMtE
import Derived.Test.YtjmkecaljkcoiaaGreatDoorQMsg13
import Derived.Test.YtjmkecaljkcoiaaGreatDoorQPid4
namespace Go.Proofs.YtjmkecaljkcoiaaGreatDoor.msgTexts
open Go.ChangeShapes Go.WideShapes Go.ChangeAt Go.RowKit
open Go.ChangeMaps (open_string shut_string)
set_option linter.unusedVariables false
set_option linter.unusedSimpArgs false
open Go.Lib
theorem all_laid {W : World} (h : laidMetH Tryz.prog Rows.msgTextsRow.laid W) : Pows W ∧ Kinds W ∧ Words W := by
  have h' : laidMetH Tryz.prog [("math/bits.deBruijn32tab", Rows.laid_math_bits_deBruijn32tab), ("math/bits.deBruijn64tab", Rows.laid_math_bits_deBruijn64tab), ("internal/strconv.uint64pow10", Rows.laid_internal_strconv_uint64pow10), ("choragus/msg.kinds", Rows.laid_choragus_msg_kinds)] W := h
  rw [MakeChecks.laidMetH_plain _ _ _ (by kernel_rfl)] at h'
  exact ⟨pows_of h'.tail.tail, kinds_of h'.tail.tail.tail, words_of h'.tail.tail.tail⟩
theorem list_txt (l : List UInt8) : (txt l).toList = l := by unfold txt; rw [ByteArray.toList_mk]
set_option maxRecDepth 100000 in
set_option maxHeartbeats 4000000 in
theorem walk (z1 z2 : Mx) (x : Bx) (w : World) (h : MxIn w w.heap.size z1) (h' : MxIn w w.heap.size z2) (hx : BxIn w w.heap.size x) (hL : laidMetH Tryz.prog Rows.msgTextsRow.laid w) :
    Calls Tryz.prog 5 #[.agg #[.int .i64 z1.kind, .int .u16 z1.who.i, .int .u32 z1.who.k, .int .u64 z1.view, .int .u64 z1.slot, .int .u64 z1.num, .int .i64 z1.hops, .int .u32 z1.b.r, .int .u16 z1.b.p.i, .int .u32 z1.b.p.k, .int .u32 z1.a.r, .int .u16 z1.a.p.i, .int .u32 z1.a.p.k, .bool z1.has, .int .i64 z1.y.kind, .int .u16 z1.y.p.i, .int .u32 z1.y.p.k, .int .u64 z1.y.num, .int .u64 z1.y.vn, .slice z1.y.A z1.y.n z1.y.c, .int .u64 z1.y.x.id, .slice z1.y.x.A z1.y.x.m z1.y.x.c, .slice z1.y.x.B z1.y.x.d z1.y.x.e, .slice z1.y.x.C z1.y.x.f z1.y.x.g, .int .u64 z1.x.id, .slice z1.x.A z1.x.m z1.x.c, .slice z1.x.B z1.x.d z1.x.e, .slice z1.x.C z1.x.f z1.x.g, .slice z1.A z1.n z1.c], .agg #[.int .i64 z2.kind, .int .u16 z2.who.i, .int .u32 z2.who.k, .int .u64 z2.view, .int .u64 z2.slot, .int .u64 z2.num, .int .i64 z2.hops, .int .u32 z2.b.r, .int .u16 z2.b.p.i, .int .u32 z2.b.p.k, .int .u32 z2.a.r, .int .u16 z2.a.p.i, .int .u32 z2.a.p.k, .bool z2.has, .int .i64 z2.y.kind, .int .u16 z2.y.p.i, .int .u32 z2.y.p.k, .int .u64 z2.y.num, .int .u64 z2.y.vn, .slice z2.y.A z2.y.n z2.y.c, .int .u64 z2.y.x.id, .slice z2.y.x.A z2.y.x.m z2.y.x.c, .slice z2.y.x.B z2.y.x.d z2.y.x.e, .slice z2.y.x.C z2.y.x.f z2.y.x.g, .int .u64 z2.x.id, .slice z2.x.A z2.x.m z2.x.c, .slice z2.x.B z2.x.d z2.x.e, .slice z2.x.C z2.x.f z2.x.g, .slice z2.A z2.n z2.c], .agg #[.int .u64 x.v, .int .u64 x.a, .int .u64 x.l, .int .u64 x.s, .slice x.A x.n x.c]] w fun e w' => e = .returned (.bool true) ∧ Below w.heap.size w w' := by
  obtain ⟨hP, hK, hW⟩ := all_laid hL
  clear hL
  have v0 := ((MAt10.mk_ w z1).alloc (.cells #[.int .i64 z2.kind, .int .u16 z2.who.i, .int .u32 z2.who.k, .int .u64 z2.view, .int .u64 z2.slot, .int .u64 z2.num, .int .i64 z2.hops, .int .u32 z2.b.r, .int .u16 z2.b.p.i, .int .u32 z2.b.p.k, .int .u32 z2.a.r, .int .u16 z2.a.p.i, .int .u32 z2.a.p.k, .bool z2.has, .int .i64 z2.y.kind, .int .u16 z2.y.p.i, .int .u32 z2.y.p.k, .int .u64 z2.y.num, .int .u64 z2.y.vn, .slice z2.y.A z2.y.n z2.y.c, .int .u64 z2.y.x.id, .slice z2.y.x.A z2.y.x.m z2.y.x.c, .slice z2.y.x.B z2.y.x.d z2.y.x.e, .slice z2.y.x.C z2.y.x.f z2.y.x.g, .int .u64 z2.x.id, .slice z2.x.A z2.x.m z2.x.c, .slice z2.x.B z2.x.d z2.x.e, .slice z2.x.C z2.x.f z2.x.g, .slice z2.A z2.n z2.c] 50)).alloc (.cells #[.int .u64 x.v, .int .u64 x.a, .int .u64 x.l, .int .u64 x.s, .slice x.A x.n x.c] 59)
  have u0 := (MAt10.mk_ (w.alloc (.cells #[.int .i64 z1.kind, .int .u16 z1.who.i, .int .u32 z1.who.k, .int .u64 z1.view, .int .u64 z1.slot, .int .u64 z1.num, .int .i64 z1.hops, .int .u32 z1.b.r, .int .u16 z1.b.p.i, .int .u32 z1.b.p.k, .int .u32 z1.a.r, .int .u16 z1.a.p.i, .int .u32 z1.a.p.k, .bool z1.has, .int .i64 z1.y.kind, .int .u16 z1.y.p.i, .int .u32 z1.y.p.k, .int .u64 z1.y.num, .int .u64 z1.y.vn, .slice z1.y.A z1.y.n z1.y.c, .int .u64 z1.y.x.id, .slice z1.y.x.A z1.y.x.m z1.y.x.c, .slice z1.y.x.B z1.y.x.d z1.y.x.e, .slice z1.y.x.C z1.y.x.f z1.y.x.g, .int .u64 z1.x.id, .slice z1.x.A z1.x.m z1.x.c, .slice z1.x.B z1.x.d z1.x.e, .slice z1.x.C z1.x.f z1.x.g, .slice z1.A z1.n z1.c] 50)) z2).alloc (.cells #[.int .u64 x.v, .int .u64 x.a, .int .u64 x.l, .int .u64 x.s, .slice x.A x.n x.c] 59)
  have t0 := BAt.mk_ ((w.alloc (.cells #[.int .i64 z1.kind, .int .u16 z1.who.i, .int .u32 z1.who.k, .int .u64 z1.view, .int .u64 z1.slot, .int .u64 z1.num, .int .i64 z1.hops, .int .u32 z1.b.r, .int .u16 z1.b.p.i, .int .u32 z1.b.p.k, .int .u32 z1.a.r, .int .u16 z1.a.p.i, .int .u32 z1.a.p.k, .bool z1.has, .int .i64 z1.y.kind, .int .u16 z1.y.p.i, .int .u32 z1.y.p.k, .int .u64 z1.y.num, .int .u64 z1.y.vn, .slice z1.y.A z1.y.n z1.y.c, .int .u64 z1.y.x.id, .slice z1.y.x.A z1.y.x.m z1.y.x.c, .slice z1.y.x.B z1.y.x.d z1.y.x.e, .slice z1.y.x.C z1.y.x.f z1.y.x.g, .int .u64 z1.x.id, .slice z1.x.A z1.x.m z1.x.c, .slice z1.x.B z1.x.d z1.x.e, .slice z1.x.C z1.x.f z1.x.g, .slice z1.A z1.n z1.c] 50)).alloc (.cells #[.int .i64 z2.kind, .int .u16 z2.who.i, .int .u32 z2.who.k, .int .u64 z2.view, .int .u64 z2.slot, .int .u64 z2.num, .int .i64 z2.hops, .int .u32 z2.b.r, .int .u16 z2.b.p.i, .int .u32 z2.b.p.k, .int .u32 z2.a.r, .int .u16 z2.a.p.i, .int .u32 z2.a.p.k, .bool z2.has, .int .i64 z2.y.kind, .int .u16 z2.y.p.i, .int .u32 z2.y.p.k, .int .u64 z2.y.num, .int .u64 z2.y.vn, .slice z2.y.A z2.y.n z2.y.c, .int .u64 z2.y.x.id, .slice z2.y.x.A z2.y.x.m z2.y.x.c, .slice z2.y.x.B z2.y.x.d z2.y.x.e, .slice z2.y.x.C z2.y.x.f z2.y.x.g, .int .u64 z2.x.id, .slice z2.x.A z2.x.m z2.x.c, .slice z2.x.B z2.x.d z2.x.e, .slice z2.x.C z2.x.f z2.x.g, .slice z2.A z2.n z2.c] 50)) x
  simp only [World.size_alloc] at u0 t0
  have hbz : Below w.heap.size w (((w.alloc (.cells #[.int .i64 z1.kind, .int .u16 z1.who.i, .int .u32 z1.who.k, .int .u64 z1.view, .int .u64 z1.slot, .int .u64 z1.num, .int .i64 z1.hops, .int .u32 z1.b.r, .int .u16 z1.b.p.i, .int .u32 z1.b.p.k, .int .u32 z1.a.r, .int .u16 z1.a.p.i, .int .u32 z1.a.p.k, .bool z1.has, .int .i64 z1.y.kind, .int .u16 z1.y.p.i, .int .u32 z1.y.p.k, .int .u64 z1.y.num, .int .u64 z1.y.vn, .slice z1.y.A z1.y.n z1.y.c, .int .u64 z1.y.x.id, .slice z1.y.x.A z1.y.x.m z1.y.x.c, .slice z1.y.x.B z1.y.x.d z1.y.x.e, .slice z1.y.x.C z1.y.x.f z1.y.x.g, .int .u64 z1.x.id, .slice z1.x.A z1.x.m z1.x.c, .slice z1.x.B z1.x.d z1.x.e, .slice z1.x.C z1.x.f z1.x.g, .slice z1.A z1.n z1.c] 50)).alloc (.cells #[.int .i64 z2.kind, .int .u16 z2.who.i, .int .u32 z2.who.k, .int .u64 z2.view, .int .u64 z2.slot, .int .u64 z2.num, .int .i64 z2.hops, .int .u32 z2.b.r, .int .u16 z2.b.p.i, .int .u32 z2.b.p.k, .int .u32 z2.a.r, .int .u16 z2.a.p.i, .int .u32 z2.a.p.k, .bool z2.has, .int .i64 z2.y.kind, .int .u16 z2.y.p.i, .int .u32 z2.y.p.k, .int .u64 z2.y.num, .int .u64 z2.y.vn, .slice z2.y.A z2.y.n z2.y.c, .int .u64 z2.y.x.id, .slice z2.y.x.A z2.y.x.m z2.y.x.c, .slice z2.y.x.B z2.y.x.d z2.y.x.e, .slice z2.y.x.C z2.y.x.f z2.y.x.g, .int .u64 z2.x.id, .slice z2.x.A z2.x.m z2.x.c, .slice z2.x.B z2.x.d z2.x.e, .slice z2.x.C z2.x.f z2.x.g, .slice z2.A z2.n z2.c] 50)).alloc (.cells #[.int .u64 x.v, .int .u64 x.a, .int .u64 x.l, .int .u64 x.s, .slice x.A x.n x.c] 59)) := (((Below.refl _ _).alloc (Nat.le_refl _) _).alloc (by simp) _).alloc (by simp; omega) _
  have AW := fun W (hb : Below w.heap.size w W) => (awake10_any W (hK.later hb)).mono (fun e w' (hh : e = .returned (.bool true) ∧ Below W.heap.size W w') => (⟨hh.1, hb.trans (hh.2.mono hb.size)⟩ : e = .returned (.bool true) ∧ Below w.heap.size w w'))
  have cg := great10_any z1 w.heap.size _ (h.below hbz) hbz.size
  unfold Great10P at cg
  have ZIN := fun W (hb : Below w.heap.size w W) => h.below hb
  have YIN := fun W (hb : Below w.heap.size w W) => h'.below hb
  have XIN := fun W (hb : Below w.heap.size w W) => hx.below hb
  have LIN := fun W (hb : Below w.heap.size w W) => (⟨hP.below hb, hK.later hb, hW.later hb⟩ : Pows W ∧ Kinds W ∧ Words W)
  have HZ := hide (And.intro ZIN (And.intro YIN (And.intro XIN LIN)))
  have HAW := hide AW
  clear h h' hx hP hK hW AW ZIN YIN XIN LIN
  have hl0 := v0.lt
  have hl1 := u0.lt
  have hl2 := t0.lt
  generalize hw1 : (((w.alloc (.cells #[.int .i64 z1.kind, .int .u16 z1.who.i, .int .u32 z1.who.k, .int .u64 z1.view, .int .u64 z1.slot, .int .u64 z1.num, .int .i64 z1.hops, .int .u32 z1.b.r, .int .u16 z1.b.p.i, .int .u32 z1.b.p.k, .int .u32 z1.a.r, .int .u16 z1.a.p.i, .int .u32 z1.a.p.k, .bool z1.has, .int .i64 z1.y.kind, .int .u16 z1.y.p.i, .int .u32 z1.y.p.k, .int .u64 z1.y.num, .int .u64 z1.y.vn, .slice z1.y.A z1.y.n z1.y.c, .int .u64 z1.y.x.id, .slice z1.y.x.A z1.y.x.m z1.y.x.c, .slice z1.y.x.B z1.y.x.d z1.y.x.e, .slice z1.y.x.C z1.y.x.f z1.y.x.g, .int .u64 z1.x.id, .slice z1.x.A z1.x.m z1.x.c, .slice z1.x.B z1.x.d z1.x.e, .slice z1.x.C z1.x.f z1.x.g, .slice z1.A z1.n z1.c] 50)).alloc (.cells #[.int .i64 z2.kind, .int .u16 z2.who.i, .int .u32 z2.who.k, .int .u64 z2.view, .int .u64 z2.slot, .int .u64 z2.num, .int .i64 z2.hops, .int .u32 z2.b.r, .int .u16 z2.b.p.i, .int .u32 z2.b.p.k, .int .u32 z2.a.r, .int .u16 z2.a.p.i, .int .u32 z2.a.p.k, .bool z2.has, .int .i64 z2.y.kind, .int .u16 z2.y.p.i, .int .u32 z2.y.p.k, .int .u64 z2.y.num, .int .u64 z2.y.vn, .slice z2.y.A z2.y.n z2.y.c, .int .u64 z2.y.x.id, .slice z2.y.x.A z2.y.x.m z2.y.x.c, .slice z2.y.x.B z2.y.x.d z2.y.x.e, .slice z2.y.x.C z2.y.x.f z2.y.x.g, .int .u64 z2.x.id, .slice z2.x.A z2.x.m z2.x.c, .slice z2.x.B z2.x.d z2.x.e, .slice z2.x.C z2.x.f z2.x.g, .slice z2.A z2.n z2.c] 50)).alloc (.cells #[.int .u64 x.v, .int .u64 x.a, .int .u64 x.l, .int .u64 x.s, .slice x.A x.n x.c] 59)) = w1 at *
  go_enter Tryz.func5, Tryz.ntmps5
  go_wp2_with (refine wpList_load_msg z1 w.heap.size rfl (.tmp 3) rfl rfl v0 ?_)
  refine cg.mono ?_
  rintro e w2 ⟨gb, rfl, hsm, hb⟩
  have hb2 := hbz.trans (hb.mono hbz.size)
  have v2 := v0.later hb
  have u2 := u0.later hb
  have t2 := t0.later hb
  have hl3 := v2.lt
  have hl4 := u2.lt
  have hl5 := t2.lt
  clear cg hw1 v0 u0 t0 hb hbz hl0 hl1 hl2
  cases gb
  case true =>
    clear hsm
    have aw := HAW.out w2 hb2
    go_wp2_with fail
    refine aw.mono ?_
    rintro e w3 ⟨rfl, hb3⟩
    go_wp2
    go_ret
    exact ⟨rfl, hb3⟩
  have hs1 := hsm (by first | rfl | trivial)
  have HS1 := hide hs1
  clear hsm hs1
  have cg := great10_any z2 w.heap.size w2 (HZ.out.2.1 w2 hb2) hb2.size
  unfold Great10P at cg
  go_wp2_with (first | refine wpList_load_msg_yes z2 (w.heap.size + 1) rfl (.tmp 4) rfl rfl u2 ?_)
  refine cg.mono ?_
  rintro e w3 ⟨gb, rfl, hsm, hb⟩
  have hb3 := hb2.trans (hb.mono hb2.size)
  have v3 := v2.later hb
  have u3 := u2.later hb
  have t3 := t2.later hb
  have hl0 := v3.lt
  have hl1 := u3.lt
  have hl2 := t3.lt
  clear cg v2 u2 t2 hb hb2 hl3 hl4 hl5
  cases gb
  case true =>
    clear hsm
    have aw := HAW.out w3 hb3
    go_wp2_with fail
    refine aw.mono ?_
    rintro e w4 ⟨rfl, hb4⟩
    go_wp2
    go_ret
    exact ⟨rfl, hb4⟩
  have hs2 := hsm (by first | rfl | trivial)
  have HS2 := hide hs2
  clear hsm hs2
  obtain ⟨k0, k1, k2, k3, k4⟩ := t3.cells
  by_cases h60 : 60 < x.n
  · have t1 : ((x.n : Int) > 60) = True := by simp; omega
    have aw := HAW.out w3 hb3
    go_wp2_with fail
    refine aw.mono ?_
    rintro e w4 ⟨rfl, hb4⟩
    go_wp2
    go_ret
    exact ⟨rfl, hb4⟩
  have t1 : ((x.n : Int) > 60) = False := by simp; omega
  obtain ⟨La, hLa⟩ := TxM.some_ z1.m
  obtain ⟨Lb, hLb⟩ := TxM.some_ z2.m
  obtain ⟨Lx, hLx⟩ := TxB.some_ x.m
  have hone := TxM.one hLa hLb
  have BZ := fun Z : Later w3 => hb3.trans (Z.below.mono hb3.size)
  have c1 := fun Z : Later w3 => calm_of (mtext_any z1 w.heap.size Z.w La (HZ.out.1 Z.w (BZ Z)) HS1.out (BZ Z).size hLa (HZ.out.2.2.2 Z.w (BZ Z)).2.1 (HZ.out.2.2.2 Z.w (BZ Z)).2.2 (HZ.out.2.2.2 Z.w (BZ Z)).1)
  have c2 := fun Z : Later w3 => calm_of (mtext_any z2 w.heap.size Z.w Lb (HZ.out.2.1 Z.w (BZ Z)) HS2.out (BZ Z).size hLb (HZ.out.2.2.2 Z.w (BZ Z)).2.1 (HZ.out.2.2.2 Z.w (BZ Z)).2.2 (HZ.out.2.2.2 Z.w (BZ Z)).1)
  have D1 := fun W (hb : Below w.heap.size w W) => rmtext_any z1 w.heap.size W La (HZ.out.1 W hb) HS1.out hb.size hLa
  have D2 := fun W (hb : Below w.heap.size w W) => rmtext_any z2 w.heap.size W Lb (HZ.out.2.1 W hb) HS2.out hb.size hLb
  have D3 := fun W (hb : Below w.heap.size w W) => mbeattext_any x w.heap.size W Lx (HZ.out.2.2.1 W hb) hb.size hLx (HZ.out.2.2.2 W hb).1
  have D4 := fun W (hb : Below w.heap.size w W) => rmbeattext_any x w.heap.size W Lx (HZ.out.2.2.1 W hb) hb.size hLx
  have HONE := hide hone
  clear hone hLa hLb hLx
  obtain ⟨sa, hsa⟩ : ∃ s, s = txt La := ⟨_, rfl⟩
  obtain ⟨sb, hsb⟩ : ∃ s, s = txt Lb := ⟨_, rfl⟩
  obtain ⟨sx, hsx⟩ : ∃ s, s = txt Lx := ⟨_, rfl⟩
  rw [← hsa] at c1 D1
  rw [← hsb] at c2 D2
  rw [← hsx] at D3 D4
  have HS := hide (And.intro hsa hsb)
  have HD := hide (And.intro D1 (And.intro D2 (And.intro D3 D4)))
  have RR := hide (And.intro (later_row v3) (later_row u3))
  clear hsa hsb hsx D1 D2 D3 D4 k0 k1 k2 k3
  go_upto_region 3 with fail
  clear k4 t1
  refine wp_region_calm (by kernel_rfl) (by kernel_rfl) ?_
  repeat (first
    | (go_big_quiet_want; refine quiet_row 50 (.tmp 3) w.heap.size (#[.int .i64 z1.kind, .int .u16 z1.who.i, .int .u32 z1.who.k, .int .u64 z1.view, .int .u64 z1.slot, .int .u64 z1.num, .int .i64 z1.hops, .int .u32 z1.b.r, .int .u16 z1.b.p.i, .int .u32 z1.b.p.k, .int .u32 z1.a.r, .int .u16 z1.a.p.i, .int .u32 z1.a.p.k, .bool z1.has, .int .i64 z1.y.kind, .int .u16 z1.y.p.i, .int .u32 z1.y.p.k, .int .u64 z1.y.num, .int .u64 z1.y.vn, .slice z1.y.A z1.y.n z1.y.c, .int .u64 z1.y.x.id, .slice z1.y.x.A z1.y.x.m z1.y.x.c, .slice z1.y.x.B z1.y.x.d z1.y.x.e, .slice z1.y.x.C z1.y.x.f z1.y.x.g, .int .u64 z1.x.id, .slice z1.x.A z1.x.m z1.x.c, .slice z1.x.B z1.x.d z1.x.e, .slice z1.x.C z1.x.f z1.x.g, .slice z1.A z1.n z1.c] : Array Value) rfl rfl RR.out.1 Tryz.underlying50 rfl size_msg ?_; (try simp only [Act.put, List.setIfInBounds_toArray, List.set_cons_succ, List.set_cons_zero]); go_big_quiet_on)
    | (go_big_quiet_want; refine quiet_row 50 (.tmp 4) (w.heap.size + 1) (#[.int .i64 z2.kind, .int .u16 z2.who.i, .int .u32 z2.who.k, .int .u64 z2.view, .int .u64 z2.slot, .int .u64 z2.num, .int .i64 z2.hops, .int .u32 z2.b.r, .int .u16 z2.b.p.i, .int .u32 z2.b.p.k, .int .u32 z2.a.r, .int .u16 z2.a.p.i, .int .u32 z2.a.p.k, .bool z2.has, .int .i64 z2.y.kind, .int .u16 z2.y.p.i, .int .u32 z2.y.p.k, .int .u64 z2.y.num, .int .u64 z2.y.vn, .slice z2.y.A z2.y.n z2.y.c, .int .u64 z2.y.x.id, .slice z2.y.x.A z2.y.x.m z2.y.x.c, .slice z2.y.x.B z2.y.x.d z2.y.x.e, .slice z2.y.x.C z2.y.x.f z2.y.x.g, .int .u64 z2.x.id, .slice z2.x.A z2.x.m z2.x.c, .slice z2.x.B z2.x.d z2.x.e, .slice z2.x.C z2.x.f z2.x.g, .slice z2.A z2.n z2.c] : Array Value) rfl rfl RR.out.2 Tryz.underlying50 rfl size_msg ?_; (try simp only [Act.put, List.setIfInBounds_toArray, List.set_cons_succ, List.set_cons_zero]); go_big_quiet_on)
    | go_big_quiet_step ((go_at_call 21; first | with_reducible exact c1 _ | with_reducible exact c2 _)))
  refine wpQuiet_nil ?_
  rintro _ ⟨x9, rfl⟩
  have hb9 := x9.below
  have v4 := v3.later hb9
  have u4 := u3.later hb9
  have t4 := t3.later hb9
  generalize x9.w = w4 at hb9 v4 u4 t4 ⊢
  have hb4 := hb3.trans (hb9.mono hb3.size)
  clear c1 c2 hb9 v3 u3 t3 hb3 hl0 hl1 hl2 RR BZ
  obtain ⟨k0, k1, k2, k3, k4⟩ := t4.cells
  have e0 := Later.cell k0
  have e1 := Later.cell k1
  have e2 := Later.cell k2
  have e3 := Later.cell k3
  have e4 := Later.cell k4
  have BZ := fun Z : Later w4 => hb4.trans (Z.below.mono hb4.size)
  have d1 := fun Z : Later w4 => calm_of (HD.out.1 Z.w (BZ Z))
  have d2 := fun Z : Later w4 => calm_of (HD.out.2.1 Z.w (BZ Z))
  have d3 := fun Z : Later w4 => calm_of (HD.out.2.2.1 Z.w (BZ Z))
  have d4 := fun Z : Later w4 => calm_of (HD.out.2.2.2 Z.w (BZ Z))
  have RR := hide (And.intro (later_row v4) (later_row u4))
  clear k0 k1 k2 k3 k4
  go_upto_region 4 with fail
  refine wp_region_calm (by kernel_rfl) (by kernel_rfl) ?_
  repeat (first
    | (go_big_quiet_want; refine quiet_row 50 (.tmp 3) w.heap.size (#[.int .i64 z1.kind, .int .u16 z1.who.i, .int .u32 z1.who.k, .int .u64 z1.view, .int .u64 z1.slot, .int .u64 z1.num, .int .i64 z1.hops, .int .u32 z1.b.r, .int .u16 z1.b.p.i, .int .u32 z1.b.p.k, .int .u32 z1.a.r, .int .u16 z1.a.p.i, .int .u32 z1.a.p.k, .bool z1.has, .int .i64 z1.y.kind, .int .u16 z1.y.p.i, .int .u32 z1.y.p.k, .int .u64 z1.y.num, .int .u64 z1.y.vn, .slice z1.y.A z1.y.n z1.y.c, .int .u64 z1.y.x.id, .slice z1.y.x.A z1.y.x.m z1.y.x.c, .slice z1.y.x.B z1.y.x.d z1.y.x.e, .slice z1.y.x.C z1.y.x.f z1.y.x.g, .int .u64 z1.x.id, .slice z1.x.A z1.x.m z1.x.c, .slice z1.x.B z1.x.d z1.x.e, .slice z1.x.C z1.x.f z1.x.g, .slice z1.A z1.n z1.c] : Array Value) rfl rfl RR.out.1 Tryz.underlying50 rfl size_msg ?_; (try simp only [Act.put, List.setIfInBounds_toArray, List.set_cons_succ, List.set_cons_zero]); go_big_quiet_on)
    | (go_big_quiet_want; refine quiet_row 50 (.tmp 4) (w.heap.size + 1) (#[.int .i64 z2.kind, .int .u16 z2.who.i, .int .u32 z2.who.k, .int .u64 z2.view, .int .u64 z2.slot, .int .u64 z2.num, .int .i64 z2.hops, .int .u32 z2.b.r, .int .u16 z2.b.p.i, .int .u32 z2.b.p.k, .int .u32 z2.a.r, .int .u16 z2.a.p.i, .int .u32 z2.a.p.k, .bool z2.has, .int .i64 z2.y.kind, .int .u16 z2.y.p.i, .int .u32 z2.y.p.k, .int .u64 z2.y.num, .int .u64 z2.y.vn, .slice z2.y.A z2.y.n z2.y.c, .int .u64 z2.y.x.id, .slice z2.y.x.A z2.y.x.m z2.y.x.c, .slice z2.y.x.B z2.y.x.d z2.y.x.e, .slice z2.y.x.C z2.y.x.f z2.y.x.g, .int .u64 z2.x.id, .slice z2.x.A z2.x.m z2.x.c, .slice z2.x.B z2.x.d z2.x.e, .slice z2.x.C z2.x.f z2.x.g, .slice z2.A z2.n z2.c] : Array Value) rfl rfl RR.out.2 Tryz.underlying50 rfl size_msg ?_; (try simp only [Act.put, List.setIfInBounds_toArray, List.set_cons_succ, List.set_cons_zero]); go_big_quiet_on)
    | go_big_quiet_step (first | (go_at_call 22; first | with_reducible exact d1 _ | with_reducible exact d2 _) | (go_at_call 23; with_reducible exact d3 _) | (go_at_call 24; with_reducible exact d4 _)))
  refine wpQuiet_nil ?_
  rintro _ ⟨x9, rfl⟩
  have hb9 := x9.below
  have v5 := v4.later hb9
  have u5 := u4.later hb9
  generalize x9.w = w5 at hb9 v5 u5 ⊢
  have hb5 := hb4.trans (hb9.mono hb4.size)
  have l5 := v5.lt
  have l6 := u5.lt
  clear d1 d2 d3 d4 hb9 v4 u4 t4 hb4 RR BZ e0 e1 e2 e3 e4
  have aw := HAW.out w5 hb5
  by_cases hE : sa.toList = sb.toList
  case neg =>
    clear v5 u5
    go_wp2_with fail
    refine aw.mono ?_
    rintro e w9 ⟨rfl, hb9⟩
    go_wp2
    go_ret
    exact ⟨rfl, hb9⟩
  by_cases hQ : sb.toList = [63]
  case pos =>
    clear v5 u5
    go_wp2_with fail
    refine aw.mono ?_
    rintro e w9 ⟨rfl, hb9⟩
    go_wp2
    go_ret
    exact ⟨rfl, hb9⟩
  have hm : z1.m = z2.m := by
    have q1 := hE
    have q2 := hQ
    rw [HS.out.1, HS.out.2, list_txt, list_txt] at q1
    rw [HS.out.2, list_txt] at q2
    rcases HONE.out q1 with e | e
    · exact absurd (q1.symm.trans e) q2
    · exact e
  have cs := rmsame_any z1 z2 w.heap.size w.heap.size w5 true (HZ.out.1 w5 hb5) (HZ.out.2.1 w5 hb5) hb5.size hb5.size ⟨fun _ => hm, fun _ => rfl⟩
  clear hm aw
  go_wp2_with (first | refine wpList_load_msg_yes z1 w.heap.size (by first | rfl | (go_simp; done) | (simp [Region.wanted, yielded, hE, hQ]; done)) (.tmp 3) rfl rfl v5 ?_ | refine wpList_load_msg_yes z2 (w.heap.size + 1) (by first | rfl | (go_simp; done) | (simp [Region.wanted, yielded, hE, hQ]; done)) (.tmp 4) rfl rfl u5 ?_)
  refine cs.mono ?_
  rintro e w8 ⟨rfl, hb⟩
  have hb8 := hb5.trans (hb.mono hb5.size)
  have aw8 := HAW.out w8 hb8
  clear cs v5 u5
  go_wp2_with fail
  refine aw8.mono ?_
  rintro e w9 ⟨rfl, hb9⟩
  go_wp2
  go_ret
  exact ⟨rfl, hb9⟩
set_option maxRecDepth 100000 in
theorem contract (H : Type) (enc : TypeId × Value → H) (W : World) (base : Nat) (args : Array Value) (ds gs : List (DataW H)) (before : List MemPlace)
    (hval : ∀ (j : Nat) t v, Tryz.f5.params[j]? = some t → args[j]? = some v → Value.okWide Tryz.prog W .any base t v)
    (hW : DataW.Whole enc Tryz.prog Tryz.f5.params.toList Rows.msgTextsSpec.vars false W args.toList ds gs before)
    (_hsz : (DataW.weightsEach Tryz.prog (Tryz.f5.params.toList ++ (OpenSpec.ofChange Rows.msgTextsSpec).bare.plain.varTypes Tryz.prog) (ds ++ gs)).all (· ≤ reachBytes) = true)
    (_hL : laidMetH Tryz.prog Rows.msgTextsRow.laid W) :
    Calls Tryz.prog 5 args W fun e W' => ∃ v, e = .returned v ∧ Rows.msgTextsSpec.post enc Tryz.prog Tryz.f5 false true false false W args v W' := by
  have hW' := hW
  obtain ⟨p, q, hA0, hV, rfl, hfz, hnd⟩ := hW
  have hA : DataW.TrodAll enc Tryz.prog W 0 (fun _ => true) true Tryz.f5.params.toList args.toList ds p := hA0
  rw [Tryz.params5] at hA hval _hsz
  obtain ⟨v0, vs0, d0, ds0, p0, q0, hargs, rfl, rfl, h0, r0⟩ := trodAll_cons hA
  obtain ⟨v1, vs1, d1, ds1, p1, q1, rfl, rfl, rfl, h1, r1⟩ := trodAll_cons r0
  obtain ⟨v2, vs2, d2, ds2, p2, q2, rfl, rfl, rfl, h2, r2⟩ := trodAll_cons r1
  obtain ⟨rfl, rfl, rfl⟩ := trodAll_nil r2
  obtain rfl : args = #[v0, v1, v2] := by cases args; simp_all
  obtain ⟨rfl, rfl⟩ := trodVars_none hV
  have k0 := h0
  have lt0 : ∀ x ∈ p0, x.block < W.heap.size := by obtain ⟨m, hm⟩ := k0; exact DataW.trod_lt m _ _ _ hm
  obtain ⟨x0, rfl, hx0⟩ := open_msg (hval 0 50 v0 rfl rfl) h0
  have k1 := h1
  have lt1 : ∀ x ∈ p1, x.block < W.heap.size := by obtain ⟨m, hm⟩ := k1; exact DataW.trod_lt m _ _ _ hm
  obtain ⟨x1, rfl, hx1⟩ := open_msg (hval 1 50 v1 rfl rfl) h1
  have k2 := h2
  have lt2 : ∀ x ∈ p2, x.block < W.heap.size := by obtain ⟨m, hm⟩ := k2; exact DataW.trod_lt m _ _ _ hm
  obtain ⟨x2, rfl, hx2⟩ := open_beat (hval 2 59 v2 rfl rfl) h2
  clear hA0
  refine (walk x0 x1 x2 W hx0 hx1 hx2 _hL).mono fun e W' ⟨he, bel⟩ => ?_
  subst he
  exact ⟨_, rfl, _, _, _, [], _, [], hW', trodAll_mk1 (shut_bool Tryz.underlying4 _), (trodAll_cons_mk (Below.trod laidOut (by kernel_rfl) (of_decide_eq_true (by kernel_rfl)) k0 bel lt0) (trodAll_cons_mk (Below.trod laidOut (by kernel_rfl) (of_decide_eq_true (by kernel_rfl)) k1 bel lt1) (trodAll_cons_mk (Below.trod laidOut (by kernel_rfl) (of_decide_eq_true (by kernel_rfl)) k2 bel lt2) trodAll_mk0))), rfl, bel.frame _, fun h => by cases h⟩
theorem laid_met (os : Os) : laidMet Tryz.prog Rows.msgTextsRow.laid (((World.doorLaid Tryz.prog 400 os)).forCall (fun _ _ => 0) ⟨#[], #[.agg #[.int .i64 0, .int .u16 0, .int .u32 0, .int .u64 0, .int .u64 0, .int .u64 0, .int .i64 0, .int .u32 0, .int .u16 0, .int .u32 0, .int .u32 0, .int .u16 0, .int .u32 0, .bool false, .int .i64 0, .int .u16 0, .int .u32 0, .int .u64 0, .int .u64 0, .slice none 0 0, .int .u64 0, .slice none 0 0, .slice none 0 0, .slice none 0 0, .int .u64 0, .slice none 0 0, .slice none 0 0, .slice none 0 0, .slice none 0 0], .agg #[.int .i64 0, .int .u16 0, .int .u32 0, .int .u64 0, .int .u64 0, .int .u64 0, .int .i64 0, .int .u32 0, .int .u16 0, .int .u32 0, .int .u32 0, .int .u16 0, .int .u32 0, .bool false, .int .i64 0, .int .u16 0, .int .u32 0, .int .u64 0, .int .u64 0, .slice none 0 0, .int .u64 0, .slice none 0 0, .slice none 0 0, .slice none 0 0, .int .u64 0, .slice none 0 0, .slice none 0 0, .slice none 0 0, .slice none 0 0], .agg #[.int .u64 0, .int .u64 0, .int .u64 0, .int .u64 0, .slice none 0 0]], []⟩).memory :=
  laidMet_of_run' 8 (by kernel_rfl) (by kernel_rfl)
theorem reads (os : Os) {H : Type} (enc : TypeId × Value → H) : ∃ places, DataW.whole enc Tryz.prog (((World.doorLaid Tryz.prog 400 os)).forCall (fun _ _ => 0) ⟨#[], #[.agg #[.int .i64 0, .int .u16 0, .int .u32 0, .int .u64 0, .int .u64 0, .int .u64 0, .int .i64 0, .int .u32 0, .int .u16 0, .int .u32 0, .int .u32 0, .int .u16 0, .int .u32 0, .bool false, .int .i64 0, .int .u16 0, .int .u32 0, .int .u64 0, .int .u64 0, .slice none 0 0, .int .u64 0, .slice none 0 0, .slice none 0 0, .slice none 0 0, .int .u64 0, .slice none 0 0, .slice none 0 0, .slice none 0 0, .slice none 0 0], .agg #[.int .i64 0, .int .u16 0, .int .u32 0, .int .u64 0, .int .u64 0, .int .u64 0, .int .i64 0, .int .u32 0, .int .u16 0, .int .u32 0, .int .u32 0, .int .u16 0, .int .u32 0, .bool false, .int .i64 0, .int .u16 0, .int .u32 0, .int .u64 0, .int .u64 0, .slice none 0 0, .int .u64 0, .slice none 0 0, .slice none 0 0, .slice none 0 0, .int .u64 0, .slice none 0 0, .slice none 0 0, .slice none 0 0, .slice none 0 0], .agg #[.int .u64 0, .int .u64 0, .int .u64 0, .int .u64 0, .slice none 0 0]], []⟩).memory Tryz.f5.params.toList Rows.msgTextsSpec.vars false (#[.agg #[.int .i64 0, .int .u16 0, .int .u32 0, .int .u64 0, .int .u64 0, .int .u64 0, .int .i64 0, .int .u32 0, .int .u16 0, .int .u32 0, .int .u32 0, .int .u16 0, .int .u32 0, .bool false, .int .i64 0, .int .u16 0, .int .u32 0, .int .u64 0, .int .u64 0, .slice none 0 0, .int .u64 0, .slice none 0 0, .slice none 0 0, .slice none 0 0, .int .u64 0, .slice none 0 0, .slice none 0 0, .slice none 0 0, .slice none 0 0], .agg #[.int .i64 0, .int .u16 0, .int .u32 0, .int .u64 0, .int .u64 0, .int .u64 0, .int .i64 0, .int .u32 0, .int .u16 0, .int .u32 0, .int .u32 0, .int .u16 0, .int .u32 0, .bool false, .int .i64 0, .int .u16 0, .int .u32 0, .int .u64 0, .int .u64 0, .slice none 0 0, .int .u64 0, .slice none 0 0, .slice none 0 0, .slice none 0 0, .int .u64 0, .slice none 0 0, .slice none 0 0, .slice none 0 0, .slice none 0 0], .agg #[.int .u64 0, .int .u64 0, .int .u64 0, .int .u64 0, .slice none 0 0]] : Array Value).toList 8 = some ([.agg [.lit (.int .i64 0), .agg [.lit (.int .u16 0), .lit (.int .u32 0)], .lit (.int .u64 0), .lit (.int .u64 0), .lit (.int .u64 0), .lit (.int .i64 0), .agg [.lit (.int .u32 0), .agg [.lit (.int .u16 0), .lit (.int .u32 0)]], .agg [.lit (.int .u32 0), .agg [.lit (.int .u16 0), .lit (.int .u32 0)]], .lit (.bool false), .agg [.lit (.int .i64 0), .agg [.lit (.int .u16 0), .lit (.int .u32 0)], .lit (.int .u64 0), .lit (.int .u64 0), .nil, .agg [.lit (.int .u64 0), .nil, .nil, .nil]], .agg [.lit (.int .u64 0), .nil, .nil, .nil], .nil], .agg [.lit (.int .i64 0), .agg [.lit (.int .u16 0), .lit (.int .u32 0)], .lit (.int .u64 0), .lit (.int .u64 0), .lit (.int .u64 0), .lit (.int .i64 0), .agg [.lit (.int .u32 0), .agg [.lit (.int .u16 0), .lit (.int .u32 0)]], .agg [.lit (.int .u32 0), .agg [.lit (.int .u16 0), .lit (.int .u32 0)]], .lit (.bool false), .agg [.lit (.int .i64 0), .agg [.lit (.int .u16 0), .lit (.int .u32 0)], .lit (.int .u64 0), .lit (.int .u64 0), .nil, .agg [.lit (.int .u64 0), .nil, .nil, .nil]], .agg [.lit (.int .u64 0), .nil, .nil, .nil], .nil], .agg [.lit (.int .u64 0), .lit (.int .u64 0), .lit (.int .u64 0), .lit (.int .u64 0), .nil]], [], places) :=
  ⟨[], by kernel_rfl⟩
set_option maxRecDepth 100000 in
theorem lifted (os : Os) (started : os.Started) (H : Type) (enc : TypeId × Value → H) (F : Stop.Interp) :
    ReturnsInHanded {} Tryz.checked os 5 .any ((OpenSpec.ofChange Rows.msgTextsSpec).preRow enc Tryz.prog Tryz.f5 Rows.msgTextsRow.domain false Rows.msgTextsRow.laid) (((OpenSpec.ofChange Rows.msgTextsSpec).at F).post enc Tryz.prog Tryz.f5 false true false false) := by
  obtain ⟨places, hx⟩ := reads os enc
  refine returnsInHanded_of_row (C := Tryz.checked) (s := OpenSpec.ofChange Rows.msgTextsSpec) own started (by kernel_rfl) Tryz.func5
    (witness_row_atRef (enc := enc) (C := Tryz.checked) false (World.doorLaid Tryz.prog 400 os) #[.agg #[.int .i64 0, .int .u16 0, .int .u32 0, .int .u64 0, .int .u64 0, .int .u64 0, .int .i64 0, .int .u32 0, .int .u16 0, .int .u32 0, .int .u32 0, .int .u16 0, .int .u32 0, .bool false, .int .i64 0, .int .u16 0, .int .u32 0, .int .u64 0, .int .u64 0, .slice none 0 0, .int .u64 0, .slice none 0 0, .slice none 0 0, .slice none 0 0, .int .u64 0, .slice none 0 0, .slice none 0 0, .slice none 0 0, .slice none 0 0], .agg #[.int .i64 0, .int .u16 0, .int .u32 0, .int .u64 0, .int .u64 0, .int .u64 0, .int .i64 0, .int .u32 0, .int .u16 0, .int .u32 0, .int .u32 0, .int .u16 0, .int .u32 0, .bool false, .int .i64 0, .int .u16 0, .int .u32 0, .int .u64 0, .int .u64 0, .slice none 0 0, .int .u64 0, .slice none 0 0, .slice none 0 0, .slice none 0 0, .int .u64 0, .slice none 0 0, .slice none 0 0, .slice none 0 0, .slice none 0 0], .agg #[.int .u64 0, .int .u64 0, .int .u64 0, .int .u64 0, .slice none 0 0]] rfl (by kernel_rfl) (by kernel_rfl) (by kernel_rfl)
      (OpenSpec.preRow_of_cond 8 hx (by kernel_rfl) (fun k hk => by cases hk) (by kernel_rfl) (laid_met os))) ?_
  intro W base args ds gs before hval hW _ _ hsz hL _ _
  exact contract H enc W base args ds gs before hval hW hsz hL
theorem said : Rows.MsgTextsSaid :=
  OpenClaim.holds_of_cond 5 Tryz.f5 rfl rfl rfl rfl rfl rfl rfl ⟨rfl, rfl, rfl, rfl, rfl⟩ rfl rfl rfl rfl rfl (by kernel_rfl) Tryz.func5 (by kernel_rfl)
    (of_decide_eq_true (by kernel_rfl)) (by unfold Func.isWrapper; first | (rw [if_pos (by decide +kernel)]; kernel_rfl) | (rw [if_neg (by decide +kernel)]; exact ⟨rfl, rfl⟩))
    (fun os started H enc _ F => by rw [OpenClaim.pre_eq_preRow]; exact lifted os started H enc F)
theorem proved : Rows.MsgTextsCardSaid :=
  Claim7.holds_tied_plain_at .later [] _ _ _ _ said (fun _ h => by cases h) (by kernel_rfl) (fun _ h => by cases h) msgTexts_row_tie rfl ⟨rfl, rfl⟩ (by kernel_rfl) rfl
    (fun f fn hf hfn => by
      obtain rfl : f = 5 := Option.some.inj ((show Tryz.prog.funcNamed "choragus/choraguslaw10.MsgTexts" = some 5 by kernel_rfl).symm.trans hf) |>.symm
      obtain rfl : fn = Tryz.f5 := (Option.some.inj (Tryz.func5.symm.trans hfn)).symm
      exact ⟨by kernel_rfl, fun j t ht => by
        rw [Tryz.params5] at ht
        have hm : t ∈ [50, 50, 59] := by simpa using Array.mem_of_getElem? ht
        have hall : ([50, 50, 59].all fun u => !Tryz.prog.wantsStandIn u) = true := by kernel_rfl
        exact (show Tryz.prog.wantsStandIn t = false by simpa using List.all_eq_true.1 hall t hm)⟩)
    (by kernel_rfl)
#print axioms proved
end Go.Proofs.YtjmkecaljkcoiaaGreatDoor.msgTexts
