import Derived.Test.YtjmkecaljkcoiaaGreatDoorQMsg11
namespace Go.Proofs.YtjmkecaljkcoiaaGreatDoor
open Go.RowKit Go.Maps
set_option linter.unusedVariables false
set_option linter.unusedSimpArgs false
theorem results_cell_slot {P : Program} {fn : Func} {p q : Tmp} {ty : TypeId} (h : fn.results = #[.cell p ty, .tmp q]) (tmps : Array Value) (w : World) (g : Nat) (t : TypeId) (cs : Array Value) (fr : Nat × Nat) (d : TypeDesc) (u : Value)
    (hp : tmps.getD p undef = .pointer (some ⟨g, 0, none⟩)) (hq : tmps.getD q undef = u) (hg : w.heap[g]? = some (.cells cs t fr))
    (hu : P.underlying ty = some d) (hd : (match d with | .struct _ | .array _ _ => true | _ => false) = true) (hi : (P.info? ty).map (·.size) = some cs.size) :
    (results fn tmps).run P w = .ok (.tuple #[.agg cs, u]) w := by
  have hp' : tmps[p]?.getD undef = .pointer (some ⟨g, 0, none⟩) := by simpa using hp
  have hq' : tmps[q]?.getD undef = u := by simpa using hq
  simp [results, h, hp', hq', asAddr, run_loadVar_row w g t ty cs fr d hg hu hd hi]
def DecP10 (w : World) (r : Ms × Nat) (e : Ending) (w' : World) : Prop := ∃ z : Mx, e = .returned (.tuple #[.agg #[.int .i64 z.kind, .int .u16 z.who.i, .int .u32 z.who.k, .int .u64 z.view, .int .u64 z.slot, .int .u64 z.num, .int .i64 z.hops, .int .u32 z.b.r, .int .u16 z.b.p.i, .int .u32 z.b.p.k, .int .u32 z.a.r, .int .u16 z.a.p.i, .int .u32 z.a.p.k, .bool z.has, .int .i64 z.y.kind, .int .u16 z.y.p.i, .int .u32 z.y.p.k, .int .u64 z.y.num, .int .u64 z.y.vn, .slice z.y.A z.y.n z.y.c, .int .u64 z.y.x.id, .slice z.y.x.A z.y.x.m z.y.x.c, .slice z.y.x.B z.y.x.d z.y.x.e, .slice z.y.x.C z.y.x.f z.y.x.g, .int .u64 z.x.id, .slice z.x.A z.x.m z.x.c, .slice z.x.B z.x.d z.x.e, .slice z.x.C z.x.f z.x.g, .slice z.A z.n z.c], .int .i64 ((r.2 : Nat) : Int)]) ∧ z.m = r.1 ∧ MxOwn w' w.heap.size z ∧ MNums z ∧ MSmall z ∧ Below w.heap.size w w'
set_option maxRecDepth 100000 in
set_option maxHeartbeats 4000000 in
theorem decode10_any (A : Option Addr) (n c : Nat) (l : List UInt8) (B : Nat) (w : World) (hA : Bs w B A n l) (hB : B ≤ w.heap.size) (hn : n ≤ 9000000) (hK : Kinds w) :
    Calls Tryz.prog 16 #[.slice A n c] w (DecP10 w (decM l)) := by
  have hbz : Below w.heap.size w (w.alloc (.cells #[.int .i64 0, .int .u16 0, .int .u32 0, .int .u64 0, .int .u64 0, .int .u64 0, .int .i64 0, .int .u32 0, .int .u16 0, .int .u32 0, .int .u32 0, .int .u16 0, .int .u32 0, .bool false, .int .i64 0, .int .u16 0, .int .u32 0, .int .u64 0, .int .u64 0, .slice none 0 0, .int .u64 0, .slice none 0 0, .slice none 0 0, .slice none 0 0, .int .u64 0, .slice none 0 0, .slice none 0 0, .slice none 0 0, .slice none 0 0] 50)) := (Below.refl _ _).alloc (Nat.le_refl _) _
  have z0 : MAt10 (w.alloc (.cells #[.int .i64 0, .int .u16 0, .int .u32 0, .int .u64 0, .int .u64 0, .int .u64 0, .int .i64 0, .int .u32 0, .int .u16 0, .int .u32 0, .int .u32 0, .int .u16 0, .int .u32 0, .bool false, .int .i64 0, .int .u16 0, .int .u32 0, .int .u64 0, .int .u64 0, .slice none 0 0, .int .u64 0, .slice none 0 0, .slice none 0 0, .slice none 0 0, .int .u64 0, .slice none 0 0, .slice none 0 0, .slice none 0 0, .slice none 0 0] 50)) w.heap.size zeroM := MAt10.mk_ w zeroM
  have hs1 : (w.alloc (.cells #[.int .i64 0, .int .u16 0, .int .u32 0, .int .u64 0, .int .u64 0, .int .u64 0, .int .i64 0, .int .u32 0, .int .u16 0, .int .u32 0, .int .u32 0, .int .u16 0, .int .u32 0, .bool false, .int .i64 0, .int .u16 0, .int .u32 0, .int .u64 0, .int .u64 0, .slice none 0 0, .int .u64 0, .slice none 0 0, .slice none 0 0, .slice none 0 0, .int .u64 0, .slice none 0 0, .slice none 0 0, .slice none 0 0, .slice none 0 0] 50)).heap.size = w.heap.size + 1 := by simp
  have cr := read_any A n c l B (w.alloc (.cells #[.int .i64 0, .int .u16 0, .int .u32 0, .int .u64 0, .int .u64 0, .int .u64 0, .int .i64 0, .int .u32 0, .int .u16 0, .int .u32 0, .int .u32 0, .int .u16 0, .int .u32 0, .bool false, .int .i64 0, .int .u16 0, .int .u32 0, .int .u64 0, .int .u64 0, .slice none 0 0, .int .u64 0, .slice none 0 0, .slice none 0 0, .slice none 0 0, .int .u64 0, .slice none 0 0, .slice none 0 0, .slice none 0 0, .slice none 0 0] 50)) (hA.below (hbz.mono hB)) (Nat.le_trans hB hbz.size) (by omega)
  unfold ReadP at cr
  have hlen := hA.len
  obtain ⟨x, hx⟩ : ∃ x, x = getM ⟨l, 0⟩ := ⟨_, rfl⟩
  have hd1 : endF x.2.l x.2.t ≠ 0 → decM l = (kindM 0, endF x.2.l x.2.t) := by rw [hx]; exact decM_err
  have hd2 : endF x.2.l x.2.t = 0 → MayM x.1 → decM l = (x.1, 0) := by rw [hx]; exact decM_yes
  have hd3 : endF x.2.l x.2.t = 0 → ¬ MayM x.1 → decM l = (kindM 0, 5) := by rw [hx]; exact decM_no
  have HX := hide (And.intro hx (And.intro hd1 (And.intro hd2 hd3)))
  have hlen2 : l.length ≤ 10000000 := by omega
  have HL := hide hlen2
  have hkl := hK.lt
  have HK := hide hK
  clear hA hlen hx hd1 hd2 hd3 hlen2 hK
  generalize hw1 : w.alloc (.cells #[.int .i64 0, .int .u16 0, .int .u32 0, .int .u64 0, .int .u64 0, .int .u64 0, .int .i64 0, .int .u32 0, .int .u16 0, .int .u32 0, .int .u32 0, .int .u16 0, .int .u32 0, .bool false, .int .i64 0, .int .u16 0, .int .u32 0, .int .u64 0, .int .u64 0, .slice none 0 0, .int .u64 0, .slice none 0 0, .slice none 0 0, .slice none 0 0, .int .u64 0, .slice none 0 0, .slice none 0 0, .slice none 0 0, .slice none 0 0] 50) = w1 at *
  go_enter Tryz.func16, Tryz.ntmps16
  go_wp2_with fail
  refine cr.mono ?_
  rintro e w2 ⟨b, rfl, hbl, hr, hb⟩
  have hb2 := hbz.trans (hb.mono hbz.size)
  have z2 := z0.later hb
  have hrl := hr.lt
  have cg := get10_tot b ⟨l, 0⟩ w2 hr HL.out (HK.out.later hb2) (by omega)
  unfold GetP10 at cg
  rw [← HX.out.1] at cg
  have hbw : w.heap.size + 1 ≤ b := by omega
  clear cr hw1 hb z0 hr
  go_wp2_with fail
  refine cg.mono ?_
  rintro e w3 ⟨z, rfl, hm, ho, hnum, hsm, hr3, ht3⟩
  have hb3 : Below w.heap.size w w3 := hb2.trans (ht3.below hb2.size (by omega) (fun g hg => by cases hg))
  have z3 := z2.turn ht3 (by omega) (by simp)
  have hs3 := ht3.size
  have y3 : MAt10 (w3.alloc (.cells #[.int .i64 0, .int .u16 0, .int .u32 0, .int .u64 0, .int .u64 0, .int .u64 0, .int .i64 0, .int .u32 0, .int .u16 0, .int .u32 0, .int .u32 0, .int .u16 0, .int .u32 0, .bool false, .int .i64 0, .int .u16 0, .int .u32 0, .int .u64 0, .int .u64 0, .slice none 0 0, .int .u64 0, .slice none 0 0, .slice none 0 0, .slice none 0 0, .int .u64 0, .slice none 0 0, .slice none 0 0, .slice none 0 0, .slice none 0 0] 50)) w3.heap.size zeroM := MAt10.mk_ w3 zeroM
  have HO := hide (And.intro hm (And.intro hnum hsm))
  clear cg ht3 hm hnum hsm z2
  go_wp2_with (refine wpList_store_msg z zeroM w3.heap.size rfl (.tmp 5) (.tmp 10) rfl rfl rfl y3 ?_)
  intro w4 hst
  have v4 := hst.at_ y3
  have ob4 : Below w3.heap.size w3 w4 := hst.below ((Below.refl _ _).alloc (Nat.le_refl _) _) (Nat.le_refl _)
  have hb4 := hb3.trans (ob4.mono hb3.size)
  have z4 := z3.later ob4
  have o4 := ho.later ob4
  have hr4 := hr3.later ob4
  have hs4 := ob4.size
  have ce := rdend_any b x.2.l x.2.t w4 hr4
  obtain ⟨f, hf⟩ : ∃ f, f = endF x.2.l x.2.t := ⟨_, rfl⟩
  rw [← hf] at ce
  have HF := hide hf
  have hl4 := v4.lt
  have hl5 := z4.lt
  clear hf hst y3 ob4 hb3 z3 ho hr3 hr4
  go_wp2_with fail
  refine ce.mono ?_
  rintro e w5 ⟨rfl, rfl⟩
  have done : ∀ (y : Mx) (k : Nat) W', StoM w4 w.heap.size y W' → y.m = (decM l).1 → k = (decM l).2 → MxOwn w4 (w.heap.size + 1) y → MNums y → MSmall y → DecP10 w (decM l) (.returned (.tuple #[.agg #[.int .i64 y.kind, .int .u16 y.who.i, .int .u32 y.who.k, .int .u64 y.view, .int .u64 y.slot, .int .u64 y.num, .int .i64 y.hops, .int .u32 y.b.r, .int .u16 y.b.p.i, .int .u32 y.b.p.k, .int .u32 y.a.r, .int .u16 y.a.p.i, .int .u32 y.a.p.k, .bool y.has, .int .i64 y.y.kind, .int .u16 y.y.p.i, .int .u32 y.y.p.k, .int .u64 y.y.num, .int .u64 y.y.vn, .slice y.y.A y.y.n y.y.c, .int .u64 y.y.x.id, .slice y.y.x.A y.y.x.m y.y.x.c, .slice y.y.x.B y.y.x.d y.y.x.e, .slice y.y.x.C y.y.x.f y.y.x.g, .int .u64 y.x.id, .slice y.x.A y.x.m y.x.c, .slice y.x.B y.x.d y.x.e, .slice y.x.C y.x.f y.x.g, .slice y.A y.n y.c], .int .i64 k])) W' := fun y k W' hst h1 h2 h3 h4 h5 =>
    ⟨y, by rw [h2], h1, (h3.turnLow hst.turn1 (Nat.lt_succ_self _)).mono (by omega), h4, h5, hst.below hb4 (Nat.le_refl _)⟩
  have HD := hide done
  clear done ce
  by_cases h0 : f = 0
  case neg =>
    have x0 : ((f : Int) != 0) = true := by rw [bne_iff_ne]; omega
    have hdm : decM l = (kindM 0, f) := by rw [HX.out.2.1 (by rw [← HF.out]; exact h0), ← HF.out]
    have HDM := hide hdm
    clear hdm h0
    go_wp2_with (refine wpList_store_msg zeroM zeroM w.heap.size rfl (.tmp 2) (.tmp 15) rfl rfl rfl z4 ?_)
    intro w6 hst
    have hv := hst.at_ z4
    have hfin := HD.out zeroM f w6 hst (by rw [HDM.out]; rfl) (by rw [HDM.out]) (zeroM_own _ _) zeroM_num ⟨Nat.zero_le _, ⟨Nat.zero_le _, zeroX_few⟩, zeroX_few⟩
    go_wp2_with fail
    exact bodyPost_ret (v := .tuple #[.agg #[.int .i64 zeroM.kind, .int .u16 zeroM.who.i, .int .u32 zeroM.who.k, .int .u64 zeroM.view, .int .u64 zeroM.slot, .int .u64 zeroM.num, .int .i64 zeroM.hops, .int .u32 zeroM.b.r, .int .u16 zeroM.b.p.i, .int .u32 zeroM.b.p.k, .int .u32 zeroM.a.r, .int .u16 zeroM.a.p.i, .int .u32 zeroM.a.p.k, .bool zeroM.has, .int .i64 zeroM.y.kind, .int .u16 zeroM.y.p.i, .int .u32 zeroM.y.p.k, .int .u64 zeroM.y.num, .int .u64 zeroM.y.vn, .slice zeroM.y.A zeroM.y.n zeroM.y.c, .int .u64 zeroM.y.x.id, .slice zeroM.y.x.A zeroM.y.x.m zeroM.y.x.c, .slice zeroM.y.x.B zeroM.y.x.d zeroM.y.x.e, .slice zeroM.y.x.C zeroM.y.x.f zeroM.y.x.g, .int .u64 zeroM.x.id, .slice zeroM.x.A zeroM.x.m zeroM.x.c, .slice zeroM.x.B zeroM.x.d zeroM.x.e, .slice zeroM.x.C zeroM.x.f zeroM.x.g, .slice zeroM.A zeroM.n zeroM.c], .int .i64 f]) (results_cell_slot Tryz.results16 _ _ (w.heap.size) _ _ _ _ _ rfl rfl hv Tryz.underlying50 rfl size_msg) rfl hfin
  have x0 : ((f : Int) != 0) = false := by rw [h0]; rfl
  obtain ⟨t, ht⟩ := bool_of (MayM z.m)
  have ck := check10_any z w4.heap.size w4 t (o4.in_ HO.out.2.1) HO.out.2.2 (Nat.le_refl _) (HK.out.later hb4) ht
  have o5 : MxOwn w4 (w.heap.size + 1) z := o4.mono (by omega)
  have HT := hide (And.intro ht (And.intro h0 o5))
  clear ht h0 o4 o5
  cases t
  · have ck' : Calls Tryz.prog 52 #[.agg #[.int .i64 z.kind, .int .u16 z.who.i, .int .u32 z.who.k, .int .u64 z.view, .int .u64 z.slot, .int .u64 z.num, .int .i64 z.hops, .int .u32 z.b.r, .int .u16 z.b.p.i, .int .u32 z.b.p.k, .int .u32 z.a.r, .int .u16 z.a.p.i, .int .u32 z.a.p.k, .bool z.has, .int .i64 z.y.kind, .int .u16 z.y.p.i, .int .u32 z.y.p.k, .int .u64 z.y.num, .int .u64 z.y.vn, .slice z.y.A z.y.n z.y.c, .int .u64 z.y.x.id, .slice z.y.x.A z.y.x.m z.y.x.c, .slice z.y.x.B z.y.x.d z.y.x.e, .slice z.y.x.C z.y.x.f z.y.x.g, .int .u64 z.x.id, .slice z.x.A z.x.m z.x.c, .slice z.x.B z.x.d z.x.e, .slice z.x.C z.x.f z.x.g, .slice z.A z.n z.c]] w4 (fun e w' => e = .returned (.int .i64 1) ∧ Below w4.heap.size w4 w') := ck
    clear ck
    have hdm : decM l = (kindM 0, 5) := HX.out.2.2.2 (by rw [← HF.out]; exact HT.out.2.1) (by rw [← HO.out.1]; exact fun e => (by have := HT.out.1.2 e; cases this))
    have HDM := hide hdm
    clear hdm
    go_wp2_with (refine wpList_load_msg z w3.heap.size rfl (.tmp 5) rfl rfl v4 ?_)
    refine ck'.mono ?_
    rintro e w5 ⟨rfl, hb⟩
    have z5 := z4.later hb
    have hl6 := z5.lt
    have hb5 := hb4.trans (hb.mono hb4.size)
    clear ck' v4 hb
    go_wp2_with (refine wpList_store_msg zeroM zeroM w.heap.size rfl (.tmp 2) (.tmp 20) rfl rfl rfl z5 ?_)
    intro w6 hst
    have hv := hst.at_ z5
    have hfin : DecP10 w (decM l) (.returned (.tuple #[.agg #[.int .i64 zeroM.kind, .int .u16 zeroM.who.i, .int .u32 zeroM.who.k, .int .u64 zeroM.view, .int .u64 zeroM.slot, .int .u64 zeroM.num, .int .i64 zeroM.hops, .int .u32 zeroM.b.r, .int .u16 zeroM.b.p.i, .int .u32 zeroM.b.p.k, .int .u32 zeroM.a.r, .int .u16 zeroM.a.p.i, .int .u32 zeroM.a.p.k, .bool zeroM.has, .int .i64 zeroM.y.kind, .int .u16 zeroM.y.p.i, .int .u32 zeroM.y.p.k, .int .u64 zeroM.y.num, .int .u64 zeroM.y.vn, .slice zeroM.y.A zeroM.y.n zeroM.y.c, .int .u64 zeroM.y.x.id, .slice zeroM.y.x.A zeroM.y.x.m zeroM.y.x.c, .slice zeroM.y.x.B zeroM.y.x.d zeroM.y.x.e, .slice zeroM.y.x.C zeroM.y.x.f zeroM.y.x.g, .int .u64 zeroM.x.id, .slice zeroM.x.A zeroM.x.m zeroM.x.c, .slice zeroM.x.B zeroM.x.d zeroM.x.e, .slice zeroM.x.C zeroM.x.f zeroM.x.g, .slice zeroM.A zeroM.n zeroM.c], .int .i64 5])) w6 := by
      rw [HDM.out]
      exact ⟨zeroM, rfl, rfl, zeroM_own _ _, zeroM_num, ⟨Nat.zero_le _, ⟨Nat.zero_le _, zeroX_few⟩, zeroX_few⟩, hst.below hb5 (Nat.le_refl _)⟩
    go_wp2_with fail
    exact bodyPost_ret (v := .tuple #[.agg #[.int .i64 zeroM.kind, .int .u16 zeroM.who.i, .int .u32 zeroM.who.k, .int .u64 zeroM.view, .int .u64 zeroM.slot, .int .u64 zeroM.num, .int .i64 zeroM.hops, .int .u32 zeroM.b.r, .int .u16 zeroM.b.p.i, .int .u32 zeroM.b.p.k, .int .u32 zeroM.a.r, .int .u16 zeroM.a.p.i, .int .u32 zeroM.a.p.k, .bool zeroM.has, .int .i64 zeroM.y.kind, .int .u16 zeroM.y.p.i, .int .u32 zeroM.y.p.k, .int .u64 zeroM.y.num, .int .u64 zeroM.y.vn, .slice zeroM.y.A zeroM.y.n zeroM.y.c, .int .u64 zeroM.y.x.id, .slice zeroM.y.x.A zeroM.y.x.m zeroM.y.x.c, .slice zeroM.y.x.B zeroM.y.x.d zeroM.y.x.e, .slice zeroM.y.x.C zeroM.y.x.f zeroM.y.x.g, .int .u64 zeroM.x.id, .slice zeroM.x.A zeroM.x.m zeroM.x.c, .slice zeroM.x.B zeroM.x.d zeroM.x.e, .slice zeroM.x.C zeroM.x.f zeroM.x.g, .slice zeroM.A zeroM.n zeroM.c], .int .i64 5]) (results_cell_slot Tryz.results16 _ _ (w.heap.size) _ _ _ _ _ rfl rfl hv Tryz.underlying50 rfl size_msg) rfl hfin
  · have ck' : Calls Tryz.prog 52 #[.agg #[.int .i64 z.kind, .int .u16 z.who.i, .int .u32 z.who.k, .int .u64 z.view, .int .u64 z.slot, .int .u64 z.num, .int .i64 z.hops, .int .u32 z.b.r, .int .u16 z.b.p.i, .int .u32 z.b.p.k, .int .u32 z.a.r, .int .u16 z.a.p.i, .int .u32 z.a.p.k, .bool z.has, .int .i64 z.y.kind, .int .u16 z.y.p.i, .int .u32 z.y.p.k, .int .u64 z.y.num, .int .u64 z.y.vn, .slice z.y.A z.y.n z.y.c, .int .u64 z.y.x.id, .slice z.y.x.A z.y.x.m z.y.x.c, .slice z.y.x.B z.y.x.d z.y.x.e, .slice z.y.x.C z.y.x.f z.y.x.g, .int .u64 z.x.id, .slice z.x.A z.x.m z.x.c, .slice z.x.B z.x.d z.x.e, .slice z.x.C z.x.f z.x.g, .slice z.A z.n z.c]] w4 (fun e w' => e = .returned (.int .i64 0) ∧ Below w4.heap.size w4 w') := ck
    clear ck
    have hdm : decM l = (x.1, 0) := HX.out.2.2.1 (by rw [← HF.out]; exact HT.out.2.1) (by rw [← HO.out.1]; exact HT.out.1.1 rfl)
    have HDM := hide hdm
    clear hdm
    go_wp2_with (refine wpList_load_msg z w3.heap.size rfl (.tmp 5) rfl rfl v4 ?_)
    refine ck'.mono ?_
    rintro e w5 ⟨rfl, hb⟩
    have z5 := z4.later hb
    have v5 := v4.later hb
    have o5 := HT.out.2.2.later hb
    have hl6 := z5.lt
    have hl7 := v5.lt
    have hb5 := hb4.trans (hb.mono hb4.size)
    have hs5 := hb.size
    clear ck' v4 hb
    go_wp2_with (first | (refine wpList_load_msg z w3.heap.size rfl (.tmp 5) rfl rfl v5 ?_) | (refine wpList_store_msg z zeroM w.heap.size rfl (.tmp 2) (.tmp 21) rfl rfl rfl z5 ?_))
    intro w6 hst
    have hv := hst.at_ z5
    have hfin : DecP10 w (decM l) (.returned (.tuple #[.agg #[.int .i64 z.kind, .int .u16 z.who.i, .int .u32 z.who.k, .int .u64 z.view, .int .u64 z.slot, .int .u64 z.num, .int .i64 z.hops, .int .u32 z.b.r, .int .u16 z.b.p.i, .int .u32 z.b.p.k, .int .u32 z.a.r, .int .u16 z.a.p.i, .int .u32 z.a.p.k, .bool z.has, .int .i64 z.y.kind, .int .u16 z.y.p.i, .int .u32 z.y.p.k, .int .u64 z.y.num, .int .u64 z.y.vn, .slice z.y.A z.y.n z.y.c, .int .u64 z.y.x.id, .slice z.y.x.A z.y.x.m z.y.x.c, .slice z.y.x.B z.y.x.d z.y.x.e, .slice z.y.x.C z.y.x.f z.y.x.g, .int .u64 z.x.id, .slice z.x.A z.x.m z.x.c, .slice z.x.B z.x.d z.x.e, .slice z.x.C z.x.f z.x.g, .slice z.A z.n z.c], .int .i64 0])) w6 := by
      rw [HDM.out]
      exact ⟨z, rfl, HO.out.1, (o5.turnLow hst.turn1 (Nat.lt_succ_self _)).mono (by omega), HO.out.2.1, HO.out.2.2, hst.below hb5 (Nat.le_refl _)⟩
    go_wp2_with fail
    exact bodyPost_ret (v := .tuple #[.agg #[.int .i64 z.kind, .int .u16 z.who.i, .int .u32 z.who.k, .int .u64 z.view, .int .u64 z.slot, .int .u64 z.num, .int .i64 z.hops, .int .u32 z.b.r, .int .u16 z.b.p.i, .int .u32 z.b.p.k, .int .u32 z.a.r, .int .u16 z.a.p.i, .int .u32 z.a.p.k, .bool z.has, .int .i64 z.y.kind, .int .u16 z.y.p.i, .int .u32 z.y.p.k, .int .u64 z.y.num, .int .u64 z.y.vn, .slice z.y.A z.y.n z.y.c, .int .u64 z.y.x.id, .slice z.y.x.A z.y.x.m z.y.x.c, .slice z.y.x.B z.y.x.d z.y.x.e, .slice z.y.x.C z.y.x.f z.y.x.g, .int .u64 z.x.id, .slice z.x.A z.x.m z.x.c, .slice z.x.B z.x.d z.x.e, .slice z.x.C z.x.f z.x.g, .slice z.A z.n z.c], .int .i64 0]) (results_cell_slot Tryz.results16 _ _ (w.heap.size) _ _ _ _ _ rfl rfl hv Tryz.underlying50 rfl size_msg) rfl hfin
end Go.Proofs.YtjmkecaljkcoiaaGreatDoor
