import Derived.Test.YtjmkecaljkcoiaaGreatDoorQMsg5
namespace Go.Proofs.YtjmkecaljkcoiaaGreatDoor
open Go.RowKit Go.Maps
set_option linter.unusedVariables false
set_option linter.unusedSimpArgs false
def EncP (w : World) (L : List UInt8) (e : Ending) (w' : World) : Prop := ∃ A c, e = .returned (.tuple #[.slice A L.length c, .int .i64 0]) ∧ OwnB w' w.heap.size (.slice A L.length c) L.length L ∧ Below w.heap.size w w'
theorem optF_len {m : Ms} (h : MayM m) (i : Nat) (hi : i < 11) : (optF m i).length ≤ 100400 := by
  unfold optF
  split
  · next hh =>
    have hr := (h.each i hi).1 hh
    have := fld_len hi hr hh
    rcases lt11 hi with rfl | rfl | rfl | rfl | rfl | rfl | rfl | rfl | rfl | rfl | rfl
    all_goals first
      | (simp only [fldF, balL, List.length_append, List.length_cons, List.length_nil]
         have := pidL_len m.who.i m.who.k; have := (shortL_len m.view).2; have := (shortL_len m.slot).2; have := (shortL_len m.num).2; have := (shortL_len m.hops.toNat).2
         have := (shortL_len m.b.r).2; have := pidL_len m.b.p.i m.b.p.k; have := (shortL_len m.a.r).2; have := pidL_len m.a.p.i m.a.p.k
         omega)
      | exact Nat.le_trans (formC_len hr) (by omega)
      | exact Nat.le_trans (viewL_len9 hr) (by omega)
      | (simp only [fldF, List.length_append]
         have := (shortL_len m.d.length).2
         simp only [rightF] at hr
         omega)
  · simp
theorem formM_len {m : Ms} (h : MayM m) : (formM m).length ≤ 2000000 := by
  have h0 := (shortL_len m.kind.toNat).2
  have k0 := optF_len h 0 (by decide)
  have k1 := optF_len h 1 (by decide)
  have k2 := optF_len h 2 (by decide)
  have k3 := optF_len h 3 (by decide)
  have k4 := optF_len h 4 (by decide)
  have k5 := optF_len h 5 (by decide)
  have k6 := optF_len h 6 (by decide)
  have k7 := optF_len h 7 (by decide)
  have k8 := optF_len h 8 (by decide)
  have k9 := optF_len h 9 (by decide)
  have k10 := optF_len h 10 (by decide)
  unfold formM
  simp only [List.length_append]
  omega
set_option maxRecDepth 100000 in
set_option maxHeartbeats 1000000 in
theorem encode10_yes (z : Mx) (B : Nat) (w : World) (h : MxIn w B z) (hs : MSmall z) (hB : B ≤ w.heap.size) (hK : Kinds w) (hmay : MayM z.m) :
    Calls Tryz.prog 47 #[.agg #[.int .i64 z.kind, .int .u16 z.who.i, .int .u32 z.who.k, .int .u64 z.view, .int .u64 z.slot, .int .u64 z.num, .int .i64 z.hops, .int .u32 z.b.r, .int .u16 z.b.p.i, .int .u32 z.b.p.k, .int .u32 z.a.r, .int .u16 z.a.p.i, .int .u32 z.a.p.k, .bool z.has, .int .i64 z.y.kind, .int .u16 z.y.p.i, .int .u32 z.y.p.k, .int .u64 z.y.num, .int .u64 z.y.vn, .slice z.y.A z.y.n z.y.c, .int .u64 z.y.x.id, .slice z.y.x.A z.y.x.m z.y.x.c, .slice z.y.x.B z.y.x.d z.y.x.e, .slice z.y.x.C z.y.x.f z.y.x.g, .int .u64 z.x.id, .slice z.x.A z.x.m z.x.c, .slice z.x.B z.x.d z.x.e, .slice z.x.C z.x.f z.x.g, .slice z.A z.n z.c]] w (EncP w (formM z.m)) := by
  have hbz : Below w.heap.size w (w.alloc (.cells #[.int .i64 z.kind, .int .u16 z.who.i, .int .u32 z.who.k, .int .u64 z.view, .int .u64 z.slot, .int .u64 z.num, .int .i64 z.hops, .int .u32 z.b.r, .int .u16 z.b.p.i, .int .u32 z.b.p.k, .int .u32 z.a.r, .int .u16 z.a.p.i, .int .u32 z.a.p.k, .bool z.has, .int .i64 z.y.kind, .int .u16 z.y.p.i, .int .u32 z.y.p.k, .int .u64 z.y.num, .int .u64 z.y.vn, .slice z.y.A z.y.n z.y.c, .int .u64 z.y.x.id, .slice z.y.x.A z.y.x.m z.y.x.c, .slice z.y.x.B z.y.x.d z.y.x.e, .slice z.y.x.C z.y.x.f z.y.x.g, .int .u64 z.x.id, .slice z.x.A z.x.m z.x.c, .slice z.x.B z.x.d z.x.e, .slice z.x.C z.x.f z.x.g, .slice z.A z.n z.c] 50)) := (Below.refl _ _).alloc (Nat.le_refl _) _
  have v0 := MAt10.mk_ w z
  have ck : Calls Tryz.prog 52 #[.agg #[.int .i64 z.kind, .int .u16 z.who.i, .int .u32 z.who.k, .int .u64 z.view, .int .u64 z.slot, .int .u64 z.num, .int .i64 z.hops, .int .u32 z.b.r, .int .u16 z.b.p.i, .int .u32 z.b.p.k, .int .u32 z.a.r, .int .u16 z.a.p.i, .int .u32 z.a.p.k, .bool z.has, .int .i64 z.y.kind, .int .u16 z.y.p.i, .int .u32 z.y.p.k, .int .u64 z.y.num, .int .u64 z.y.vn, .slice z.y.A z.y.n z.y.c, .int .u64 z.y.x.id, .slice z.y.x.A z.y.x.m z.y.x.c, .slice z.y.x.B z.y.x.d z.y.x.e, .slice z.y.x.C z.y.x.f z.y.x.g, .int .u64 z.x.id, .slice z.x.A z.x.m z.x.c, .slice z.x.B z.x.d z.x.e, .slice z.x.C z.x.f z.x.g, .slice z.A z.n z.c]] (w.alloc (.cells #[.int .i64 z.kind, .int .u16 z.who.i, .int .u32 z.who.k, .int .u64 z.view, .int .u64 z.slot, .int .u64 z.num, .int .i64 z.hops, .int .u32 z.b.r, .int .u16 z.b.p.i, .int .u32 z.b.p.k, .int .u32 z.a.r, .int .u16 z.a.p.i, .int .u32 z.a.p.k, .bool z.has, .int .i64 z.y.kind, .int .u16 z.y.p.i, .int .u32 z.y.p.k, .int .u64 z.y.num, .int .u64 z.y.vn, .slice z.y.A z.y.n z.y.c, .int .u64 z.y.x.id, .slice z.y.x.A z.y.x.m z.y.x.c, .slice z.y.x.B z.y.x.d z.y.x.e, .slice z.y.x.C z.y.x.f z.y.x.g, .int .u64 z.x.id, .slice z.x.A z.x.m z.x.c, .slice z.x.B z.x.d z.x.e, .slice z.x.C z.x.f z.x.g, .slice z.A z.n z.c] 50)) (fun e w' => e = .returned (.int .i64 0) ∧ Below (w.alloc (.cells #[.int .i64 z.kind, .int .u16 z.who.i, .int .u32 z.who.k, .int .u64 z.view, .int .u64 z.slot, .int .u64 z.num, .int .i64 z.hops, .int .u32 z.b.r, .int .u16 z.b.p.i, .int .u32 z.b.p.k, .int .u32 z.a.r, .int .u16 z.a.p.i, .int .u32 z.a.p.k, .bool z.has, .int .i64 z.y.kind, .int .u16 z.y.p.i, .int .u32 z.y.p.k, .int .u64 z.y.num, .int .u64 z.y.vn, .slice z.y.A z.y.n z.y.c, .int .u64 z.y.x.id, .slice z.y.x.A z.y.x.m z.y.x.c, .slice z.y.x.B z.y.x.d z.y.x.e, .slice z.y.x.C z.y.x.f z.y.x.g, .int .u64 z.x.id, .slice z.x.A z.x.m z.x.c, .slice z.x.B z.x.d z.x.e, .slice z.x.C z.x.f z.x.g, .slice z.A z.n z.c] 50)).heap.size (w.alloc (.cells #[.int .i64 z.kind, .int .u16 z.who.i, .int .u32 z.who.k, .int .u64 z.view, .int .u64 z.slot, .int .u64 z.num, .int .i64 z.hops, .int .u32 z.b.r, .int .u16 z.b.p.i, .int .u32 z.b.p.k, .int .u32 z.a.r, .int .u16 z.a.p.i, .int .u32 z.a.p.k, .bool z.has, .int .i64 z.y.kind, .int .u16 z.y.p.i, .int .u32 z.y.p.k, .int .u64 z.y.num, .int .u64 z.y.vn, .slice z.y.A z.y.n z.y.c, .int .u64 z.y.x.id, .slice z.y.x.A z.y.x.m z.y.x.c, .slice z.y.x.B z.y.x.d z.y.x.e, .slice z.y.x.C z.y.x.f z.y.x.g, .int .u64 z.x.id, .slice z.x.A z.x.m z.x.c, .slice z.x.B z.x.d z.x.e, .slice z.x.C z.x.f z.x.g, .slice z.A z.n z.c] 50)) w') := check10_any z B (w.alloc (.cells #[.int .i64 z.kind, .int .u16 z.who.i, .int .u32 z.who.k, .int .u64 z.view, .int .u64 z.slot, .int .u64 z.num, .int .i64 z.hops, .int .u32 z.b.r, .int .u16 z.b.p.i, .int .u32 z.b.p.k, .int .u32 z.a.r, .int .u16 z.a.p.i, .int .u32 z.a.p.k, .bool z.has, .int .i64 z.y.kind, .int .u16 z.y.p.i, .int .u32 z.y.p.k, .int .u64 z.y.num, .int .u64 z.y.vn, .slice z.y.A z.y.n z.y.c, .int .u64 z.y.x.id, .slice z.y.x.A z.y.x.m z.y.x.c, .slice z.y.x.B z.y.x.d z.y.x.e, .slice z.y.x.C z.y.x.f z.y.x.g, .int .u64 z.x.id, .slice z.x.A z.x.m z.x.c, .slice z.x.B z.x.d z.x.e, .slice z.x.C z.x.f z.x.g, .slice z.A z.n z.c] 50)) true (h.below (hbz.mono hB)) hs (Nat.le_trans hB hbz.size) (hK.later hbz) ⟨fun _ => hmay, fun _ => rfl⟩
  have CP := fun W b (hb : Below w.heap.size w W) (hwr : WrAt W w.heap.size b none []) => put10_any z w.heap.size b B none W hwr hb.size (h.below (hb.mono hB)) hB hs (hK.later hb) hmay
  have hlen := formM_len hmay
  clear h hs hK hmay
  generalize hw1e : w.alloc (.cells #[.int .i64 z.kind, .int .u16 z.who.i, .int .u32 z.who.k, .int .u64 z.view, .int .u64 z.slot, .int .u64 z.num, .int .i64 z.hops, .int .u32 z.b.r, .int .u16 z.b.p.i, .int .u32 z.b.p.k, .int .u32 z.a.r, .int .u16 z.a.p.i, .int .u32 z.a.p.k, .bool z.has, .int .i64 z.y.kind, .int .u16 z.y.p.i, .int .u32 z.y.p.k, .int .u64 z.y.num, .int .u64 z.y.vn, .slice z.y.A z.y.n z.y.c, .int .u64 z.y.x.id, .slice z.y.x.A z.y.x.m z.y.x.c, .slice z.y.x.B z.y.x.d z.y.x.e, .slice z.y.x.C z.y.x.f z.y.x.g, .int .u64 z.x.id, .slice z.x.A z.x.m z.x.c, .slice z.x.B z.x.d z.x.e, .slice z.x.C z.x.f z.x.g, .slice z.A z.n z.c] 50) = w1 at *
  go_enter Tryz.func47, Tryz.ntmps47
  go_wp2_with (refine wpList_load_msg z w.heap.size rfl (.tmp 1) rfl rfl v0 ?_)
  refine ck.mono ?_
  rintro e w2 ⟨rfl, hb⟩
  have hb2 := hbz.trans (hb.mono hbz.size)
  have v2 := v0.later hb
  have hr2 := WrAt.new w2 w.heap.size hb2.size
  have hb3 := hb2.alloc hb2.size (.cells #[.slice none 0 0] 145)
  have v3 := v2.alloc (.cells #[.slice none 0 0] 145)
  have cp := CP _ _ hb3 hr2
  clear ck hw1e v0 hb hbz CP hb2
  have hl := v2.lt
  generalize hw3e : w2.alloc (.cells #[.slice none 0 0] 145) = w3 at *
  go_wp2_with (refine wpList_load_msg z w.heap.size rfl (.tmp 1) rfl rfl v3 ?_)
  refine cp.mono ?_
  rintro e w4 ⟨rfl, mg4, h4, ht4, hm4⟩
  have hb4 : Below w.heap.size w w4 := hb3.trans (hr2.turned ht4 hb3.size)
  clear cp v2 v3 hr2 hw3e hb3 ht4 hm4
  go_wp2_with fail
  refine (wdone_any w.heap.size _ mg4 (formM z.m) w4 h4 (by omega)).mono ?_
  rintro e w5 ⟨A5, c5, rfl, hO5, hb5⟩
  have hp : EncP w (formM z.m) (.returned (.tuple #[.slice A5 (formM z.m).length c5, .int .i64 0])) w5 := ⟨A5, c5, rfl, hO5.mono hb4.size, hb4.trans (hb5.mono hb4.size)⟩
  have HP := hide hp
  clear hp hO5 hb5 hb4 h4 hlen
  go_wp2
  go_ret2
  exact HP.out
def needX : Mx := ⟨3, default, 0, 5, 0, 0, default, default, false, zX 0 zeroX, zeroX, none, 0, 0, []⟩
def expelX : Mx := ⟨14, default, 1, 0, 0, 0, default, default, false, zX 0 zeroX, zeroX, none, 0, 0, []⟩
theorem need_may : MayM needX.m := ⟨by decide, fun i hi => by
  rcases lt11 hi with rfl | rfl | rfl | rfl | rfl | rfl | rfl | rfl | rfl | rfl | rfl
  all_goals refine ⟨fun h => ?_, fun h => ?_⟩
  all_goals first | (exfalso; revert h; decide) | rfl | (show (5 : Nat) ≤ 4611686018427387904; decide)⟩
theorem expel_may : MayM expelX.m := ⟨by decide, fun i hi => by
  rcases lt11 hi with rfl | rfl | rfl | rfl | rfl | rfl | rfl | rfl | rfl | rfl | rfl
  all_goals refine ⟨fun h => ?_, fun h => ?_⟩
  all_goals first | (exfalso; revert h; decide) | rfl | (show (1 : Nat) ≤ 4611686018427387904; decide)⟩
theorem need_form : formM needX.m = [3, 5] := by decide
theorem expel_form : formM expelX.m = [14, 1] := by decide
theorem zc_in (w : World) (B : Nat) : CxIn w B (zX 0 zeroX) := zX_in (by decide) (by decide) (zeroX_at _ _)
theorem few_in {w : World} {B k s n : Nat} (hk : k < 100) (hs : s < 100) (hn : n < 100) : MxIn w B ⟨(k : Int), default, s, n, 0, 0, default, default, false, zX 0 zeroX, zeroX, none, 0, 0, []⟩ :=
  ⟨by show (-9223372036854775808 : Int) ≤ (k : Int); omega, by show (k : Int) ≤ 9223372036854775807; omega, by show s < 18446744073709551616; omega, by show n < 18446744073709551616; omega, by show 0 < 18446744073709551616; decide, by show (-9223372036854775808 : Int) ≤ 0; decide, by show (0 : Int) ≤ 9223372036854775807; decide, zc_in _ _, zeroX_at _ _, Bs.none_, Nat.le_refl _, Nat.zero_le _⟩
theorem few_small {k : Int} {s n : Nat} : MSmall ⟨k, default, s, n, 0, 0, default, default, false, zX 0 zeroX, zeroX, none, 0, 0, []⟩ := ⟨Nat.zero_le _, ⟨Nat.zero_le _, zeroX_few⟩, zeroX_few⟩
set_option maxRecDepth 100000 in
set_option maxHeartbeats 1000000 in
theorem awake10_any (w : World) (hK : Kinds w) :
    Calls Tryz.prog 14 #[] w fun e w' => e = .returned (.bool true) ∧ Below w.heap.size w w' := by
  have c1 : Calls Tryz.prog 47 #[.agg #[.int .i64 3, .int .u16 0, .int .u32 0, .int .u64 0, .int .u64 5, .int .u64 0, .int .i64 0, .int .u32 0, .int .u16 0, .int .u32 0, .int .u32 0, .int .u16 0, .int .u32 0, .bool false, .int .i64 0, .int .u16 0, .int .u32 0, .int .u64 0, .int .u64 0, .slice none 0 0, .int .u64 0, .slice none 0 0, .slice none 0 0, .slice none 0 0, .int .u64 0, .slice none 0 0, .slice none 0 0, .slice none 0 0, .slice none 0 0]] w (EncP w [3, 5]) := by
    rw [← need_form]
    exact encode10_yes needX w.heap.size w (few_in (k := 3) (s := 0) (n := 5) (by decide) (by decide) (by decide)) few_small (Nat.le_refl _) hK need_may
  have c2 : ∀ W, Below w.heap.size w W → Calls Tryz.prog 47 #[.agg #[.int .i64 14, .int .u16 0, .int .u32 0, .int .u64 1, .int .u64 0, .int .u64 0, .int .i64 0, .int .u32 0, .int .u16 0, .int .u32 0, .int .u32 0, .int .u16 0, .int .u32 0, .bool false, .int .i64 0, .int .u16 0, .int .u32 0, .int .u64 0, .int .u64 0, .slice none 0 0, .int .u64 0, .slice none 0 0, .slice none 0 0, .slice none 0 0, .int .u64 0, .slice none 0 0, .slice none 0 0, .slice none 0 0, .slice none 0 0]] W (EncP W [14, 1]) := fun W hb => by
    rw [← expel_form]
    exact encode10_yes expelX W.heap.size W (few_in (k := 14) (s := 1) (n := 0) (by decide) (by decide) (by decide)) few_small (Nat.le_refl _) (hK.later hb) expel_may
  clear hK
  go_enter Tryz.func14, Tryz.ntmps14
  go_wp2_with fail
  refine c1.mono ?_
  rintro e w1 ⟨A1, q1, rfl, hO1, hb1⟩
  have c3 := c2 w1 hb1
  clear c1 c2
  go_wp2_with fail
  refine c3.mono ?_
  rintro e w2 ⟨A2, q2, rfl, hO2, hb2⟩
  have hb3 := hb1.trans (hb2.mono hb1.size)
  have hO3 := hO1.later hb2
  clear c3 hO1 hb1 hb2
  have hb4 := hb3.alloc hb3.size (.cells #[.int .u8 3, .int .u8 5] 5)
  have hl1 := own_lit w2 0 2 [3, 5] #[.int .u8 3, .int .u8 5] (by rfl) rfl (by decide) (Nat.zero_le _)
  have s1 := same_eq A1 (some ⟨w2.heap.size, 0, none⟩) 2 2 q1 2 [3, 5] [3, 5] _ _ (w2.alloc (.cells #[.int .u8 3, .int .u8 5] 5)) (hO3.alloc _).bs hl1.bs (by decide) rfl
  have hO4 := hO2.alloc (.cells #[.int .u8 3, .int .u8 5] 5)
  go_wp2_with fail
  refine s1.mono ?_
  rintro e w3 ⟨rfl, hd⟩
  have hb5 := hb4.trans ((drawn_below hd).mono hb4.size)
  have hO5 := hO4.later (drawn_below hd)
  clear s1 hl1 hO3 hO2 hO4 hd hb4 hb3
  have hb6 := hb5.alloc hb5.size (.cells #[.int .u8 14, .int .u8 1] 5)
  have hl2 := own_lit w3 0 2 [14, 1] #[.int .u8 14, .int .u8 1] (by rfl) rfl (by decide) (Nat.zero_le _)
  have s2 := same_eq A2 (some ⟨w3.heap.size, 0, none⟩) 2 2 q2 2 [14, 1] [14, 1] _ _ (w3.alloc (.cells #[.int .u8 14, .int .u8 1] 5)) (hO5.alloc _).bs hl2.bs (by decide) rfl
  go_wp2_with fail
  refine s2.mono ?_
  rintro e w4 ⟨rfl, hd⟩
  have hb7 := hb6.trans ((drawn_below hd).mono hb6.size)
  clear s2 hl2 hO5 hd hb6 hb5
  go_wp2
  go_ret
  exact ⟨rfl, hb7⟩
end Go.Proofs.YtjmkecaljkcoiaaGreatDoor
