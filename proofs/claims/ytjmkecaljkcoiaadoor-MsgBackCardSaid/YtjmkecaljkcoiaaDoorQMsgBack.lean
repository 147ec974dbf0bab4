import Derived.Test.YtjmkecaljkcoiaaDoorCards
import Derived.Test.YtjmkecaljkcoiaaDoorTie
import Derived.WalkKit
import Derived.ProofKit
import Derived.OpenShut
import Derived.ShutString
import Derived.ChangeOld
import Derived.Below
import Derived.Deep.DeepHandedRow
import Derived.Deep.DeepWitnessRowRef
import Derived.Lib.LaidTab
import Derived.LaidMore
import Derived.Test.YtjmkecaljkcoiaaDoorQOpenF
import Derived.Test.YtjmkecaljkcoiaaDoorQOpenMg
import Derived.Test.YtjmkecaljkcoiaaDoorQLaid10
import Derived.Test.YtjmkecaljkcoiaaDoorQMsg7
import Derived.Test.YtjmkecaljkcoiaaDoorQMsg12
import Derived.Test.YtjmkecaljkcoiaaDoorQMsg14
import Derived.Test.YtjmkecaljkcoiaaDoorQQRow
namespace Go.Proofs.YtjmkecaljkcoiaaDoor.msgBack
open Go.ChangeShapes Go.WideShapes Go.ChangeAt Go.RowKit
open Go.ChangeMaps (open_string shut_string)
set_option linter.unusedVariables false
set_option linter.unusedSimpArgs false
theorem kinds_laid {W : World} (h : laidMetH Tryd.prog Rows.msgBackRow.laid W) : Kinds W := by
  have h' : laidMetH Tryd.prog [("choragus/msg.kinds", Rows.laid_choragus_msg_kinds)] W := h
  rw [MakeChecks.laidMetH_plain _ _ _ (by kernel_rfl)] at h'
  exact kinds_of h'
set_option maxRecDepth 100000 in
set_option maxHeartbeats 4000000 in
theorem walk (z1 z2 : Mx) (w : World) (h : MxIn w w.heap.size z1) (h' : MxIn w w.heap.size z2) (hL : laidMetH Tryd.prog Rows.msgBackRow.laid w) :
    Calls Tryd.prog 4 #[.agg #[.int .i64 z1.kind, .int .u16 (z1.who.i : Int), .int .u32 (z1.who.k : Int), .int .u64 (z1.view : Int), .int .u64 (z1.slot : Int), .int .u64 (z1.num : Int), .int .i64 z1.hops, .int .u32 (z1.b.r : Int), .int .u16 (z1.b.p.i : Int), .int .u32 (z1.b.p.k : Int), .int .u32 (z1.a.r : Int), .int .u16 (z1.a.p.i : Int), .int .u32 (z1.a.p.k : Int), .bool z1.has, .int .i64 z1.y.kind, .int .u16 (z1.y.p.i : Int), .int .u32 (z1.y.p.k : Int), .int .u64 (z1.y.num : Int), .int .u64 (z1.y.vn : Int), .slice z1.y.A z1.y.n z1.y.c, .int .u64 (z1.y.x.id : Int), .slice z1.y.x.A z1.y.x.m z1.y.x.c, .slice z1.y.x.B z1.y.x.d z1.y.x.e, .slice z1.y.x.C z1.y.x.f z1.y.x.g, .int .u64 (z1.x.id : Int), .slice z1.x.A z1.x.m z1.x.c, .slice z1.x.B z1.x.d z1.x.e, .slice z1.x.C z1.x.f z1.x.g, .slice z1.A z1.n z1.c], .agg #[.int .i64 z2.kind, .int .u16 (z2.who.i : Int), .int .u32 (z2.who.k : Int), .int .u64 (z2.view : Int), .int .u64 (z2.slot : Int), .int .u64 (z2.num : Int), .int .i64 z2.hops, .int .u32 (z2.b.r : Int), .int .u16 (z2.b.p.i : Int), .int .u32 (z2.b.p.k : Int), .int .u32 (z2.a.r : Int), .int .u16 (z2.a.p.i : Int), .int .u32 (z2.a.p.k : Int), .bool z2.has, .int .i64 z2.y.kind, .int .u16 (z2.y.p.i : Int), .int .u32 (z2.y.p.k : Int), .int .u64 (z2.y.num : Int), .int .u64 (z2.y.vn : Int), .slice z2.y.A z2.y.n z2.y.c, .int .u64 (z2.y.x.id : Int), .slice z2.y.x.A z2.y.x.m z2.y.x.c, .slice z2.y.x.B z2.y.x.d z2.y.x.e, .slice z2.y.x.C z2.y.x.f z2.y.x.g, .int .u64 (z2.x.id : Int), .slice z2.x.A z2.x.m z2.x.c, .slice z2.x.B z2.x.d z2.x.e, .slice z2.x.C z2.x.f z2.x.g, .slice z2.A z2.n z2.c]] w fun e w' => e = .returned (.bool true) ∧ Below w.heap.size w w' := by
  have hK := kinds_laid hL
  clear hL
  have v0 := (MAt10.mk_ w z1).alloc (.cells #[.int .i64 z2.kind, .int .u16 (z2.who.i : Int), .int .u32 (z2.who.k : Int), .int .u64 (z2.view : Int), .int .u64 (z2.slot : Int), .int .u64 (z2.num : Int), .int .i64 z2.hops, .int .u32 (z2.b.r : Int), .int .u16 (z2.b.p.i : Int), .int .u32 (z2.b.p.k : Int), .int .u32 (z2.a.r : Int), .int .u16 (z2.a.p.i : Int), .int .u32 (z2.a.p.k : Int), .bool z2.has, .int .i64 z2.y.kind, .int .u16 (z2.y.p.i : Int), .int .u32 (z2.y.p.k : Int), .int .u64 (z2.y.num : Int), .int .u64 (z2.y.vn : Int), .slice z2.y.A z2.y.n z2.y.c, .int .u64 (z2.y.x.id : Int), .slice z2.y.x.A z2.y.x.m z2.y.x.c, .slice z2.y.x.B z2.y.x.d z2.y.x.e, .slice z2.y.x.C z2.y.x.f z2.y.x.g, .int .u64 (z2.x.id : Int), .slice z2.x.A z2.x.m z2.x.c, .slice z2.x.B z2.x.d z2.x.e, .slice z2.x.C z2.x.f z2.x.g, .slice z2.A z2.n z2.c] 37)
  have u0 := MAt10.mk_ (w.alloc (.cells #[.int .i64 z1.kind, .int .u16 (z1.who.i : Int), .int .u32 (z1.who.k : Int), .int .u64 (z1.view : Int), .int .u64 (z1.slot : Int), .int .u64 (z1.num : Int), .int .i64 z1.hops, .int .u32 (z1.b.r : Int), .int .u16 (z1.b.p.i : Int), .int .u32 (z1.b.p.k : Int), .int .u32 (z1.a.r : Int), .int .u16 (z1.a.p.i : Int), .int .u32 (z1.a.p.k : Int), .bool z1.has, .int .i64 z1.y.kind, .int .u16 (z1.y.p.i : Int), .int .u32 (z1.y.p.k : Int), .int .u64 (z1.y.num : Int), .int .u64 (z1.y.vn : Int), .slice z1.y.A z1.y.n z1.y.c, .int .u64 (z1.y.x.id : Int), .slice z1.y.x.A z1.y.x.m z1.y.x.c, .slice z1.y.x.B z1.y.x.d z1.y.x.e, .slice z1.y.x.C z1.y.x.f z1.y.x.g, .int .u64 (z1.x.id : Int), .slice z1.x.A z1.x.m z1.x.c, .slice z1.x.B z1.x.d z1.x.e, .slice z1.x.C z1.x.f z1.x.g, .slice z1.A z1.n z1.c] 37)) z2
  simp only [World.size_alloc] at u0
  have hbz : Below w.heap.size w ((w.alloc (.cells #[.int .i64 z1.kind, .int .u16 (z1.who.i : Int), .int .u32 (z1.who.k : Int), .int .u64 (z1.view : Int), .int .u64 (z1.slot : Int), .int .u64 (z1.num : Int), .int .i64 z1.hops, .int .u32 (z1.b.r : Int), .int .u16 (z1.b.p.i : Int), .int .u32 (z1.b.p.k : Int), .int .u32 (z1.a.r : Int), .int .u16 (z1.a.p.i : Int), .int .u32 (z1.a.p.k : Int), .bool z1.has, .int .i64 z1.y.kind, .int .u16 (z1.y.p.i : Int), .int .u32 (z1.y.p.k : Int), .int .u64 (z1.y.num : Int), .int .u64 (z1.y.vn : Int), .slice z1.y.A z1.y.n z1.y.c, .int .u64 (z1.y.x.id : Int), .slice z1.y.x.A z1.y.x.m z1.y.x.c, .slice z1.y.x.B z1.y.x.d z1.y.x.e, .slice z1.y.x.C z1.y.x.f z1.y.x.g, .int .u64 (z1.x.id : Int), .slice z1.x.A z1.x.m z1.x.c, .slice z1.x.B z1.x.d z1.x.e, .slice z1.x.C z1.x.f z1.x.g, .slice z1.A z1.n z1.c] 37)).alloc (.cells #[.int .i64 z2.kind, .int .u16 (z2.who.i : Int), .int .u32 (z2.who.k : Int), .int .u64 (z2.view : Int), .int .u64 (z2.slot : Int), .int .u64 (z2.num : Int), .int .i64 z2.hops, .int .u32 (z2.b.r : Int), .int .u16 (z2.b.p.i : Int), .int .u32 (z2.b.p.k : Int), .int .u32 (z2.a.r : Int), .int .u16 (z2.a.p.i : Int), .int .u32 (z2.a.p.k : Int), .bool z2.has, .int .i64 z2.y.kind, .int .u16 (z2.y.p.i : Int), .int .u32 (z2.y.p.k : Int), .int .u64 (z2.y.num : Int), .int .u64 (z2.y.vn : Int), .slice z2.y.A z2.y.n z2.y.c, .int .u64 (z2.y.x.id : Int), .slice z2.y.x.A z2.y.x.m z2.y.x.c, .slice z2.y.x.B z2.y.x.d z2.y.x.e, .slice z2.y.x.C z2.y.x.f z2.y.x.g, .int .u64 (z2.x.id : Int), .slice z2.x.A z2.x.m z2.x.c, .slice z2.x.B z2.x.d z2.x.e, .slice z2.x.C z2.x.f z2.x.g, .slice z2.A z2.n z2.c] 37)) := ((Below.refl _ _).alloc (Nat.le_refl _) _).alloc (by simp) _
  have AW := fun W (hb : Below w.heap.size w W) => (awake10_any W (hK.later hb)).mono (fun e w' (hh : e = .returned (.bool true) ∧ Below W.heap.size W w') => (⟨hh.1, hb.trans (hh.2.mono hb.size)⟩ : e = .returned (.bool true) ∧ Below w.heap.size w w'))
  have cg := great10_any z1 w.heap.size ((w.alloc (.cells #[.int .i64 z1.kind, .int .u16 (z1.who.i : Int), .int .u32 (z1.who.k : Int), .int .u64 (z1.view : Int), .int .u64 (z1.slot : Int), .int .u64 (z1.num : Int), .int .i64 z1.hops, .int .u32 (z1.b.r : Int), .int .u16 (z1.b.p.i : Int), .int .u32 (z1.b.p.k : Int), .int .u32 (z1.a.r : Int), .int .u16 (z1.a.p.i : Int), .int .u32 (z1.a.p.k : Int), .bool z1.has, .int .i64 z1.y.kind, .int .u16 (z1.y.p.i : Int), .int .u32 (z1.y.p.k : Int), .int .u64 (z1.y.num : Int), .int .u64 (z1.y.vn : Int), .slice z1.y.A z1.y.n z1.y.c, .int .u64 (z1.y.x.id : Int), .slice z1.y.x.A z1.y.x.m z1.y.x.c, .slice z1.y.x.B z1.y.x.d z1.y.x.e, .slice z1.y.x.C z1.y.x.f z1.y.x.g, .int .u64 (z1.x.id : Int), .slice z1.x.A z1.x.m z1.x.c, .slice z1.x.B z1.x.d z1.x.e, .slice z1.x.C z1.x.f z1.x.g, .slice z1.A z1.n z1.c] 37)).alloc (.cells #[.int .i64 z2.kind, .int .u16 (z2.who.i : Int), .int .u32 (z2.who.k : Int), .int .u64 (z2.view : Int), .int .u64 (z2.slot : Int), .int .u64 (z2.num : Int), .int .i64 z2.hops, .int .u32 (z2.b.r : Int), .int .u16 (z2.b.p.i : Int), .int .u32 (z2.b.p.k : Int), .int .u32 (z2.a.r : Int), .int .u16 (z2.a.p.i : Int), .int .u32 (z2.a.p.k : Int), .bool z2.has, .int .i64 z2.y.kind, .int .u16 (z2.y.p.i : Int), .int .u32 (z2.y.p.k : Int), .int .u64 (z2.y.num : Int), .int .u64 (z2.y.vn : Int), .slice z2.y.A z2.y.n z2.y.c, .int .u64 (z2.y.x.id : Int), .slice z2.y.x.A z2.y.x.m z2.y.x.c, .slice z2.y.x.B z2.y.x.d z2.y.x.e, .slice z2.y.x.C z2.y.x.f z2.y.x.g, .int .u64 (z2.x.id : Int), .slice z2.x.A z2.x.m z2.x.c, .slice z2.x.B z2.x.d z2.x.e, .slice z2.x.C z2.x.f z2.x.g, .slice z2.A z2.n z2.c] 37)) (h.below hbz) hbz.size
  unfold Great10P at cg
  have ZIN := fun W (hb : Below w.heap.size w W) => h.below hb
  have YIN := fun W (hb : Below w.heap.size w W) => h'.below hb
  have KIN := fun W (hb : Below w.heap.size w W) => hK.later hb
  have HZ := hide (And.intro ZIN (And.intro YIN KIN))
  have HAW := hide AW
  clear h h' hK AW ZIN YIN KIN
  have hl0 := v0.lt
  have hl1 := u0.lt
  generalize hw1 : ((w.alloc (.cells #[.int .i64 z1.kind, .int .u16 (z1.who.i : Int), .int .u32 (z1.who.k : Int), .int .u64 (z1.view : Int), .int .u64 (z1.slot : Int), .int .u64 (z1.num : Int), .int .i64 z1.hops, .int .u32 (z1.b.r : Int), .int .u16 (z1.b.p.i : Int), .int .u32 (z1.b.p.k : Int), .int .u32 (z1.a.r : Int), .int .u16 (z1.a.p.i : Int), .int .u32 (z1.a.p.k : Int), .bool z1.has, .int .i64 z1.y.kind, .int .u16 (z1.y.p.i : Int), .int .u32 (z1.y.p.k : Int), .int .u64 (z1.y.num : Int), .int .u64 (z1.y.vn : Int), .slice z1.y.A z1.y.n z1.y.c, .int .u64 (z1.y.x.id : Int), .slice z1.y.x.A z1.y.x.m z1.y.x.c, .slice z1.y.x.B z1.y.x.d z1.y.x.e, .slice z1.y.x.C z1.y.x.f z1.y.x.g, .int .u64 (z1.x.id : Int), .slice z1.x.A z1.x.m z1.x.c, .slice z1.x.B z1.x.d z1.x.e, .slice z1.x.C z1.x.f z1.x.g, .slice z1.A z1.n z1.c] 37)).alloc (.cells #[.int .i64 z2.kind, .int .u16 (z2.who.i : Int), .int .u32 (z2.who.k : Int), .int .u64 (z2.view : Int), .int .u64 (z2.slot : Int), .int .u64 (z2.num : Int), .int .i64 z2.hops, .int .u32 (z2.b.r : Int), .int .u16 (z2.b.p.i : Int), .int .u32 (z2.b.p.k : Int), .int .u32 (z2.a.r : Int), .int .u16 (z2.a.p.i : Int), .int .u32 (z2.a.p.k : Int), .bool z2.has, .int .i64 z2.y.kind, .int .u16 (z2.y.p.i : Int), .int .u32 (z2.y.p.k : Int), .int .u64 (z2.y.num : Int), .int .u64 (z2.y.vn : Int), .slice z2.y.A z2.y.n z2.y.c, .int .u64 (z2.y.x.id : Int), .slice z2.y.x.A z2.y.x.m z2.y.x.c, .slice z2.y.x.B z2.y.x.d z2.y.x.e, .slice z2.y.x.C z2.y.x.f z2.y.x.g, .int .u64 (z2.x.id : Int), .slice z2.x.A z2.x.m z2.x.c, .slice z2.x.B z2.x.d z2.x.e, .slice z2.x.C z2.x.f z2.x.g, .slice z2.A z2.n z2.c] 37)) = w1 at *
  go_enter Tryd.func4, Tryd.ntmps4
  go_wp2_with (refine wpList_load_msg z1 w.heap.size rfl (.tmp 2) rfl rfl v0 ?_)
  refine cg.mono ?_
  rintro e w2 ⟨gb, rfl, hsm, hb⟩
  have hb2 := hbz.trans (hb.mono hbz.size)
  have v2 := v0.later hb
  have u2 := u0.later hb
  have hl2 := v2.lt
  have hl3 := u2.lt
  clear cg hw1 v0 u0 hb hbz hl0 hl1
  cases gb
  case true =>
    clear hsm
    have aw := HAW.out w2 hb2
    go_wp2_with fail
    refine aw.mono ?_
    rintro e w3 ⟨rfl, hb3⟩
    go_wp2
    go_ret
    exact ⟨rfl, hb3⟩
  have hs1 := hsm (by first | rfl | trivial)
  have HS1 := hide hs1
  clear hsm hs1
  have cg := great10_any z2 w.heap.size w2 (HZ.out.2.1 w2 hb2) hb2.size
  unfold Great10P at cg
  go_wp2_with (first | refine wpList_load_msg_yes z2 (w.heap.size + 1) rfl (.tmp 3) rfl rfl u2 ?_)
  refine cg.mono ?_
  rintro e w3 ⟨gb, rfl, hsm, hb⟩
  have hb3 := hb2.trans (hb.mono hb2.size)
  have v3 := v2.later hb
  have u3 := u2.later hb
  have hl0 := v3.lt
  have hl1 := u3.lt
  clear cg v2 u2 hb hb2 hl2 hl3
  cases gb
  case true =>
    clear hsm
    have aw := HAW.out w3 hb3
    go_wp2_with fail
    refine aw.mono ?_
    rintro e w4 ⟨rfl, hb4⟩
    go_wp2
    go_ret
    exact ⟨rfl, hb4⟩
  have hs2 := hsm (by first | rfl | trivial)
  have HS2 := hide hs2
  clear hsm hs2
  obtain ⟨t, ht⟩ := bool_of (z1.m = z2.m)
  have k1 := fun x : Later w3 => calm_of (msame10_any z1 z2 w.heap.size w.heap.size x.w t (HZ.out.1 x.w (hb3.trans (x.below.mono hb3.size))) (HZ.out.2.1 x.w (hb3.trans (x.below.mono hb3.size))) (Nat.le_trans hb3.size x.below.size) (Nat.le_trans hb3.size x.below.size) ht)
  have k2 := fun x : Later w3 => calm_of (rmsame_any z1 z2 w.heap.size w.heap.size x.w t (HZ.out.1 x.w (hb3.trans (x.below.mono hb3.size))) (HZ.out.2.1 x.w (hb3.trans (x.below.mono hb3.size))) (Nat.le_trans hb3.size x.below.size) (Nat.le_trans hb3.size x.below.size) ht)
  have k3 := fun x : Later w3 => calm_of (msame10_any z1 z1 w.heap.size w.heap.size x.w true (HZ.out.1 x.w (hb3.trans (x.below.mono hb3.size))) (HZ.out.1 x.w (hb3.trans (x.below.mono hb3.size))) (Nat.le_trans hb3.size x.below.size) (Nat.le_trans hb3.size x.below.size) ⟨fun _ => rfl, fun _ => rfl⟩)
  have hnn : (t != t) = false := by cases t <;> rfl
  have RR := hide (And.intro (later_row v3) (later_row u3))
  clear ht
  go_upto_region 3 with fail
  refine wp_region_calm (by kernel_rfl) (by kernel_rfl) ?_
  repeat (first
    | (go_big_quiet_want; refine quiet_row 37 (.tmp 2) w.heap.size (#[.int .i64 z1.kind, .int .u16 (z1.who.i : Int), .int .u32 (z1.who.k : Int), .int .u64 (z1.view : Int), .int .u64 (z1.slot : Int), .int .u64 (z1.num : Int), .int .i64 z1.hops, .int .u32 (z1.b.r : Int), .int .u16 (z1.b.p.i : Int), .int .u32 (z1.b.p.k : Int), .int .u32 (z1.a.r : Int), .int .u16 (z1.a.p.i : Int), .int .u32 (z1.a.p.k : Int), .bool z1.has, .int .i64 z1.y.kind, .int .u16 (z1.y.p.i : Int), .int .u32 (z1.y.p.k : Int), .int .u64 (z1.y.num : Int), .int .u64 (z1.y.vn : Int), .slice z1.y.A z1.y.n z1.y.c, .int .u64 (z1.y.x.id : Int), .slice z1.y.x.A z1.y.x.m z1.y.x.c, .slice z1.y.x.B z1.y.x.d z1.y.x.e, .slice z1.y.x.C z1.y.x.f z1.y.x.g, .int .u64 (z1.x.id : Int), .slice z1.x.A z1.x.m z1.x.c, .slice z1.x.B z1.x.d z1.x.e, .slice z1.x.C z1.x.f z1.x.g, .slice z1.A z1.n z1.c] : Array Value) rfl rfl RR.out.1 Tryd.underlying37 rfl size_msg ?_; (try simp only [Act.put, List.setIfInBounds_toArray, List.set_cons_succ, List.set_cons_zero]); go_big_quiet_on)
    | (go_big_quiet_want; refine quiet_row 37 (.tmp 3) (w.heap.size + 1) (#[.int .i64 z2.kind, .int .u16 (z2.who.i : Int), .int .u32 (z2.who.k : Int), .int .u64 (z2.view : Int), .int .u64 (z2.slot : Int), .int .u64 (z2.num : Int), .int .i64 z2.hops, .int .u32 (z2.b.r : Int), .int .u16 (z2.b.p.i : Int), .int .u32 (z2.b.p.k : Int), .int .u32 (z2.a.r : Int), .int .u16 (z2.a.p.i : Int), .int .u32 (z2.a.p.k : Int), .bool z2.has, .int .i64 z2.y.kind, .int .u16 (z2.y.p.i : Int), .int .u32 (z2.y.p.k : Int), .int .u64 (z2.y.num : Int), .int .u64 (z2.y.vn : Int), .slice z2.y.A z2.y.n z2.y.c, .int .u64 (z2.y.x.id : Int), .slice z2.y.x.A z2.y.x.m z2.y.x.c, .slice z2.y.x.B z2.y.x.d z2.y.x.e, .slice z2.y.x.C z2.y.x.f z2.y.x.g, .int .u64 (z2.x.id : Int), .slice z2.x.A z2.x.m z2.x.c, .slice z2.x.B z2.x.d z2.x.e, .slice z2.x.C z2.x.f z2.x.g, .slice z2.A z2.n z2.c] : Array Value) rfl rfl RR.out.2 Tryd.underlying37 rfl size_msg ?_; (try simp only [Act.put, List.setIfInBounds_toArray, List.set_cons_succ, List.set_cons_zero]); go_big_quiet_on)
    | go_big_quiet_step (first | (go_at_call 14; first | with_reducible exact k1 _ | with_reducible exact k3 _) | (go_at_call 15; with_reducible exact k2 _)))
  refine wpQuiet_nil ?_
  rintro _ ⟨x9, rfl⟩
  have hb9 := x9.below
  have v4 := v3.later hb9
  have u4 := u3.later hb9
  generalize x9.w = w4 at hb9 v4 u4 ⊢
  have hb4 := hb3.trans (hb9.mono hb3.size)
  have hl2 := v4.lt
  clear k1 k2 k3 hb9 v3 u3 hb3 hl0 hl1 RR
  by_cases hmay : MayM z1.m
  case neg =>
    have ce := encode10_no z1 w.heap.size w4 (HZ.out.1 w4 hb4) HS1.out hb4.size (HZ.out.2.2 w4 hb4) hmay
    clear hmay
    go_wp2_with (refine wpList_load_msg z1 w.heap.size rfl (.tmp 2) rfl rfl v4 ?_)
    refine ce.mono ?_
    rintro e w5 ⟨rfl, hb⟩
    have hb5 := hb4.trans (hb.mono hb4.size)
    have aw := HAW.out w5 hb5
    clear ce v4 hb hb4
    go_wp2_with fail
    refine aw.mono ?_
    rintro e w6 ⟨rfl, hb6⟩
    go_wp2
    go_ret
    exact ⟨rfl, hb6⟩
  have ce := encode10_yes z1 w.heap.size w4 (HZ.out.1 w4 hb4) HS1.out hb4.size (HZ.out.2.2 w4 hb4) hmay
  obtain ⟨L, hLL⟩ : ∃ L, L = formM z1.m := ⟨_, rfl⟩
  have hlen : L.length ≤ 2000000 := by rw [hLL]; exact formM_len hmay
  have hdec : decM L = (z1.m, 0) := by rw [hLL]; exact decM_front hmay
  unfold EncP at ce
  rw [← hLL] at ce
  have HM := hide hdec
  clear hmay hLL hdec
  go_wp2_with (refine wpList_load_msg z1 w.heap.size rfl (.tmp 2) rfl rfl v4 ?_)
  refine ce.mono ?_
  rintro e w5 ⟨A5, c5, rfl, ho5, hb⟩
  have hb5 := hb4.trans (hb.mono hb4.size)
  have v5 := v4.later hb
  have cd := decode10_any A5 L.length c5 L w5.heap.size w5 ho5.bs (Nat.le_refl _) (by omega) (HZ.out.2.2 w5 hb5)
  unfold DecP10 at cd
  rw [HM.out] at cd
  have cd' : Calls Tryd.prog 16 #[.slice A5 L.length c5] w5 (fun e w' => ∃ z : Mx, e = .returned (.tuple #[.agg #[.int .i64 z.kind, .int .u16 (z.who.i : Int), .int .u32 (z.who.k : Int), .int .u64 (z.view : Int), .int .u64 (z.slot : Int), .int .u64 (z.num : Int), .int .i64 z.hops, .int .u32 (z.b.r : Int), .int .u16 (z.b.p.i : Int), .int .u32 (z.b.p.k : Int), .int .u32 (z.a.r : Int), .int .u16 (z.a.p.i : Int), .int .u32 (z.a.p.k : Int), .bool z.has, .int .i64 z.y.kind, .int .u16 (z.y.p.i : Int), .int .u32 (z.y.p.k : Int), .int .u64 (z.y.num : Int), .int .u64 (z.y.vn : Int), .slice z.y.A z.y.n z.y.c, .int .u64 (z.y.x.id : Int), .slice z.y.x.A z.y.x.m z.y.x.c, .slice z.y.x.B z.y.x.d z.y.x.e, .slice z.y.x.C z.y.x.f z.y.x.g, .int .u64 (z.x.id : Int), .slice z.x.A z.x.m z.x.c, .slice z.x.B z.x.d z.x.e, .slice z.x.C z.x.f z.x.g, .slice z.A z.n z.c], .int .i64 0]) ∧ z.m = z1.m ∧ MxOwn w' w5.heap.size z ∧ MNums z ∧ MSmall z ∧ Below w5.heap.size w5 w') := cd
  clear ce v4 u4 hb hb4 ho5 hlen cd hl2
  go_wp2_with fail
  refine cd'.mono ?_
  rintro e w6 ⟨y, rfl, hy, ho6, hyn, hys, hb⟩
  have hb6 := hb5.trans (hb.mono hb5.size)
  have v6 := v5.later hb
  have y6 : MAt10 (w6.alloc (.cells #[.int .i64 0, .int .u16 0, .int .u32 0, .int .u64 0, .int .u64 0, .int .u64 0, .int .i64 0, .int .u32 0, .int .u16 0, .int .u32 0, .int .u32 0, .int .u16 0, .int .u32 0, .bool false, .int .i64 0, .int .u16 0, .int .u32 0, .int .u64 0, .int .u64 0, .slice none 0 0, .int .u64 0, .slice none 0 0, .slice none 0 0, .slice none 0 0, .int .u64 0, .slice none 0 0, .slice none 0 0, .slice none 0 0, .slice none 0 0] 37)) w6.heap.size zeroM := MAt10.mk_ w6 zeroM
  have hs6 := hb.size
  clear cd' v5 hb hb5
  go_wp2_with (refine wpList_store_msg y zeroM w6.heap.size rfl (.tmp 7) (.tmp 40) rfl rfl rfl y6 ?_)
  intro w7 hst
  have ob : Below w6.heap.size w6 w7 := hst.below ((Below.refl _ _).alloc (Nat.le_refl _) _) (Nat.le_refl _)
  have hb7 := hb6.trans (ob.mono hb6.size)
  have v7 := v6.later ob
  have y7 := hst.at_ y6
  have o7 := ho6.later ob
  have hl7 := v7.lt
  have hl8 := y7.lt
  have cs := rmsame_any y z1 w7.heap.size w.heap.size w7 true (o7.in_ hyn) (HZ.out.1 w7 hb7) (Nat.le_refl _) hb7.size ⟨fun _ => hy, fun _ => rfl⟩
  clear hst y6 ob ho6 hb6 v6 hy o7
  go_wp2_with (first | refine wpList_load_msg_yes y w6.heap.size rfl (.tmp 7) rfl rfl y7 ?_ | refine wpList_load_msg_yes z1 w.heap.size rfl (.tmp 2) rfl rfl v7 ?_)
  refine cs.mono ?_
  rintro e w8 ⟨rfl, hb⟩
  have hb8 := hb7.trans (hb.mono hb7.size)
  have aw := HAW.out w8 hb8
  clear cs v7 y7 hb hb7
  go_wp2_with fail
  refine aw.mono ?_
  rintro e w9 ⟨rfl, hb9⟩
  go_wp2
  go_ret
  exact ⟨rfl, hb9⟩
set_option maxRecDepth 100000 in
theorem contract (H : Type) (enc : TypeId × Value → H) (W : World) (base : Nat) (args : Array Value) (ds gs : List (DataW H)) (before : List MemPlace)
    (hval : ∀ (j : Nat) t v, Tryd.f4.params[j]? = some t → args[j]? = some v → Value.okWide Tryd.prog W .any base t v)
    (hW : DataW.Whole enc Tryd.prog Tryd.f4.params.toList Rows.msgBackSpec.vars false W args.toList ds gs before)
    (_hsz : (DataW.weightsEach Tryd.prog (Tryd.f4.params.toList ++ (OpenSpec.ofChange Rows.msgBackSpec).bare.plain.varTypes Tryd.prog) (ds ++ gs)).all (· ≤ reachBytes) = true)
    (_hL : laidMetH Tryd.prog Rows.msgBackRow.laid W) :
    Calls Tryd.prog 4 args W fun e W' => ∃ v, e = .returned v ∧ Rows.msgBackSpec.post enc Tryd.prog Tryd.f4 false true false false W args v W' := by
  have hW' := hW
  obtain ⟨p, q, hA0, hV, rfl, hfz, hnd⟩ := hW
  have hA : DataW.TrodAll enc Tryd.prog W 0 (fun _ => true) true Tryd.f4.params.toList args.toList ds p := hA0
  rw [Tryd.params4] at hA hval _hsz
  obtain ⟨v0, vs0, d0, ds0, p0, q0, hargs, rfl, rfl, h0, r0⟩ := trodAll_cons hA
  obtain ⟨v1, vs1, d1, ds1, p1, q1, rfl, rfl, rfl, h1, r1⟩ := trodAll_cons r0
  obtain ⟨rfl, rfl, rfl⟩ := trodAll_nil r1
  obtain rfl : args = #[v0, v1] := by cases args; simp_all
  obtain ⟨rfl, rfl⟩ := trodVars_none hV
  have k0 := h0
  have lt0 : ∀ x ∈ p0, x.block < W.heap.size := by obtain ⟨m, hm⟩ := k0; exact DataW.trod_lt m _ _ _ hm
  obtain ⟨x0, rfl, hx0⟩ := open_msg (hval 0 37 v0 rfl rfl) h0
  have k1 := h1
  have lt1 : ∀ x ∈ p1, x.block < W.heap.size := by obtain ⟨m, hm⟩ := k1; exact DataW.trod_lt m _ _ _ hm
  obtain ⟨x1, rfl, hx1⟩ := open_msg (hval 1 37 v1 rfl rfl) h1
  clear hA0
  refine (walk x0 x1 W hx0 hx1 _hL).mono fun e W' ⟨he, bel⟩ => ?_
  subst he
  exact ⟨_, rfl, _, _, _, [], _, [], hW', trodAll_mk1 (shut_bool Tryd.underlying4 _), (trodAll_cons_mk (Below.trod laidOut (by kernel_rfl) (of_decide_eq_true (by kernel_rfl)) k0 bel lt0) (trodAll_cons_mk (Below.trod laidOut (by kernel_rfl) (of_decide_eq_true (by kernel_rfl)) k1 bel lt1) trodAll_mk0)), rfl, bel.frame _, fun h => by cases h⟩
theorem laid_met (os : Os) : laidMet Tryd.prog Rows.msgBackRow.laid (((World.doorLaid Tryd.prog 400 os)).forCall (fun _ _ => 0) ⟨#[], #[.agg #[.int .i64 0, .int .u16 0, .int .u32 0, .int .u64 0, .int .u64 0, .int .u64 0, .int .i64 0, .int .u32 0, .int .u16 0, .int .u32 0, .int .u32 0, .int .u16 0, .int .u32 0, .bool false, .int .i64 0, .int .u16 0, .int .u32 0, .int .u64 0, .int .u64 0, .slice none 0 0, .int .u64 0, .slice none 0 0, .slice none 0 0, .slice none 0 0, .int .u64 0, .slice none 0 0, .slice none 0 0, .slice none 0 0, .slice none 0 0], .agg #[.int .i64 0, .int .u16 0, .int .u32 0, .int .u64 0, .int .u64 0, .int .u64 0, .int .i64 0, .int .u32 0, .int .u16 0, .int .u32 0, .int .u32 0, .int .u16 0, .int .u32 0, .bool false, .int .i64 0, .int .u16 0, .int .u32 0, .int .u64 0, .int .u64 0, .slice none 0 0, .int .u64 0, .slice none 0 0, .slice none 0 0, .slice none 0 0, .int .u64 0, .slice none 0 0, .slice none 0 0, .slice none 0 0, .slice none 0 0]], []⟩).memory :=
  laidMet_of_run' 8 (by kernel_rfl) (by kernel_rfl)
theorem reads (os : Os) {H : Type} (enc : TypeId × Value → H) : ∃ places, DataW.whole enc Tryd.prog (((World.doorLaid Tryd.prog 400 os)).forCall (fun _ _ => 0) ⟨#[], #[.agg #[.int .i64 0, .int .u16 0, .int .u32 0, .int .u64 0, .int .u64 0, .int .u64 0, .int .i64 0, .int .u32 0, .int .u16 0, .int .u32 0, .int .u32 0, .int .u16 0, .int .u32 0, .bool false, .int .i64 0, .int .u16 0, .int .u32 0, .int .u64 0, .int .u64 0, .slice none 0 0, .int .u64 0, .slice none 0 0, .slice none 0 0, .slice none 0 0, .int .u64 0, .slice none 0 0, .slice none 0 0, .slice none 0 0, .slice none 0 0], .agg #[.int .i64 0, .int .u16 0, .int .u32 0, .int .u64 0, .int .u64 0, .int .u64 0, .int .i64 0, .int .u32 0, .int .u16 0, .int .u32 0, .int .u32 0, .int .u16 0, .int .u32 0, .bool false, .int .i64 0, .int .u16 0, .int .u32 0, .int .u64 0, .int .u64 0, .slice none 0 0, .int .u64 0, .slice none 0 0, .slice none 0 0, .slice none 0 0, .int .u64 0, .slice none 0 0, .slice none 0 0, .slice none 0 0, .slice none 0 0]], []⟩).memory Tryd.f4.params.toList Rows.msgBackSpec.vars false (#[.agg #[.int .i64 0, .int .u16 0, .int .u32 0, .int .u64 0, .int .u64 0, .int .u64 0, .int .i64 0, .int .u32 0, .int .u16 0, .int .u32 0, .int .u32 0, .int .u16 0, .int .u32 0, .bool false, .int .i64 0, .int .u16 0, .int .u32 0, .int .u64 0, .int .u64 0, .slice none 0 0, .int .u64 0, .slice none 0 0, .slice none 0 0, .slice none 0 0, .int .u64 0, .slice none 0 0, .slice none 0 0, .slice none 0 0, .slice none 0 0], .agg #[.int .i64 0, .int .u16 0, .int .u32 0, .int .u64 0, .int .u64 0, .int .u64 0, .int .i64 0, .int .u32 0, .int .u16 0, .int .u32 0, .int .u32 0, .int .u16 0, .int .u32 0, .bool false, .int .i64 0, .int .u16 0, .int .u32 0, .int .u64 0, .int .u64 0, .slice none 0 0, .int .u64 0, .slice none 0 0, .slice none 0 0, .slice none 0 0, .int .u64 0, .slice none 0 0, .slice none 0 0, .slice none 0 0, .slice none 0 0]] : Array Value).toList 8 = some ([.agg [.lit (.int .i64 0), .agg [.lit (.int .u16 0), .lit (.int .u32 0)], .lit (.int .u64 0), .lit (.int .u64 0), .lit (.int .u64 0), .lit (.int .i64 0), .agg [.lit (.int .u32 0), .agg [.lit (.int .u16 0), .lit (.int .u32 0)]], .agg [.lit (.int .u32 0), .agg [.lit (.int .u16 0), .lit (.int .u32 0)]], .lit (.bool false), .agg [.lit (.int .i64 0), .agg [.lit (.int .u16 0), .lit (.int .u32 0)], .lit (.int .u64 0), .lit (.int .u64 0), .nil, .agg [.lit (.int .u64 0), .nil, .nil, .nil]], .agg [.lit (.int .u64 0), .nil, .nil, .nil], .nil], .agg [.lit (.int .i64 0), .agg [.lit (.int .u16 0), .lit (.int .u32 0)], .lit (.int .u64 0), .lit (.int .u64 0), .lit (.int .u64 0), .lit (.int .i64 0), .agg [.lit (.int .u32 0), .agg [.lit (.int .u16 0), .lit (.int .u32 0)]], .agg [.lit (.int .u32 0), .agg [.lit (.int .u16 0), .lit (.int .u32 0)]], .lit (.bool false), .agg [.lit (.int .i64 0), .agg [.lit (.int .u16 0), .lit (.int .u32 0)], .lit (.int .u64 0), .lit (.int .u64 0), .nil, .agg [.lit (.int .u64 0), .nil, .nil, .nil]], .agg [.lit (.int .u64 0), .nil, .nil, .nil], .nil]], [], places) :=
  ⟨[], by kernel_rfl⟩
set_option maxRecDepth 100000 in
theorem lifted (os : Os) (started : os.Started) (H : Type) (enc : TypeId × Value → H) (F : Stop.Interp) :
    ReturnsInHanded {} Tryd.checked os 4 .any ((OpenSpec.ofChange Rows.msgBackSpec).preRow enc Tryd.prog Tryd.f4 Rows.msgBackRow.domain false Rows.msgBackRow.laid) (((OpenSpec.ofChange Rows.msgBackSpec).at F).post enc Tryd.prog Tryd.f4 false true false false) := by
  obtain ⟨places, hx⟩ := reads os enc
  refine returnsInHanded_of_row (C := Tryd.checked) (s := OpenSpec.ofChange Rows.msgBackSpec) own started (by kernel_rfl) Tryd.func4
    (witness_row_atRef (enc := enc) (C := Tryd.checked) false (World.doorLaid Tryd.prog 400 os) #[.agg #[.int .i64 0, .int .u16 0, .int .u32 0, .int .u64 0, .int .u64 0, .int .u64 0, .int .i64 0, .int .u32 0, .int .u16 0, .int .u32 0, .int .u32 0, .int .u16 0, .int .u32 0, .bool false, .int .i64 0, .int .u16 0, .int .u32 0, .int .u64 0, .int .u64 0, .slice none 0 0, .int .u64 0, .slice none 0 0, .slice none 0 0, .slice none 0 0, .int .u64 0, .slice none 0 0, .slice none 0 0, .slice none 0 0, .slice none 0 0], .agg #[.int .i64 0, .int .u16 0, .int .u32 0, .int .u64 0, .int .u64 0, .int .u64 0, .int .i64 0, .int .u32 0, .int .u16 0, .int .u32 0, .int .u32 0, .int .u16 0, .int .u32 0, .bool false, .int .i64 0, .int .u16 0, .int .u32 0, .int .u64 0, .int .u64 0, .slice none 0 0, .int .u64 0, .slice none 0 0, .slice none 0 0, .slice none 0 0, .int .u64 0, .slice none 0 0, .slice none 0 0, .slice none 0 0, .slice none 0 0]] rfl (by kernel_rfl) (by kernel_rfl) (by kernel_rfl)
      (OpenSpec.preRow_of_cond 8 hx (by kernel_rfl) (fun k hk => by cases hk) (by kernel_rfl) (laid_met os))) ?_
  intro W base args ds gs before hval hW _ _ hsz hL _ _
  exact contract H enc W base args ds gs before hval hW hsz hL
theorem said : Rows.MsgBackSaid :=
  OpenClaim.holds_of_cond 4 Tryd.f4 rfl rfl rfl rfl rfl rfl rfl ⟨rfl, rfl, rfl, rfl, rfl⟩ rfl rfl rfl rfl rfl (by kernel_rfl) Tryd.func4 (by kernel_rfl)
    (of_decide_eq_true (by kernel_rfl)) (by unfold Func.isWrapper; first | (rw [if_pos (by decide +kernel)]; kernel_rfl) | (rw [if_neg (by decide +kernel)]; exact ⟨rfl, rfl⟩))
    (fun os started H enc _ F => by rw [OpenClaim.pre_eq_preRow]; exact lifted os started H enc F)
theorem proved : Rows.MsgBackCardSaid :=
  Claim7.holds_tied_plain_at .later [] _ _ _ _ said (fun _ h => by cases h) (by kernel_rfl) (fun _ h => by cases h) msgBack_row_tie rfl ⟨rfl, rfl⟩ (by kernel_rfl) rfl
    (fun f fn hf hfn => by
      obtain rfl : f = 4 := Option.some.inj ((show Tryd.prog.funcNamed "choragus/choraguslaw10.MsgBack" = some 4 by kernel_rfl).symm.trans hf) |>.symm
      obtain rfl : fn = Tryd.f4 := (Option.some.inj (Tryd.func4.symm.trans hfn)).symm
      exact ⟨by kernel_rfl, fun j t ht => by
        rw [Tryd.params4] at ht
        have hm : t ∈ [37, 37] := by simpa using Array.mem_of_getElem? ht
        have hall : ([37, 37].all fun u => !Tryd.prog.wantsStandIn u) = true := by kernel_rfl
        exact (show Tryd.prog.wantsStandIn t = false by simpa using List.all_eq_true.1 hall t hm)⟩)
    (by kernel_rfl)
#print axioms proved
end Go.Proofs.YtjmkecaljkcoiaaDoor.msgBack
