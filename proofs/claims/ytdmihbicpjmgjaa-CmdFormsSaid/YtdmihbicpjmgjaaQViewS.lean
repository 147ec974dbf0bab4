/-
  Layer 8: the contract of Get, where a view's form stands at the beginning.
-/
import Derived.Deep.RegionHeld3
import Derived.Deep.AppendLies
import Derived.Test.YtdmihbicpjmgjaaQViewQ
import Derived.Test.YtdmihbicpjmgjaaQViewH
import Derived.Deep.RegionLaw
namespace Go.Proofs.Ytdmihbicpjmgjaa
open Go.RowKit Go.Maps
set_option linter.unusedVariables false
set_option linter.unusedSimpArgs false

/-- Where Get stands: what it has read so far, and its own two variables. -/
structure GetS (w W : World) (b : Nat) (rest : List UInt8) (y : Vw) : Prop where
  v : VAt W (w.heap.size + 1) y
  z : VAt W w.heap.size zeroX
  own : VwOwn W (w.heap.size + 1 + 1) y
  rd : RdAt W b rest 0
  turn : Turn w W b none
  sz : w.heap.size + 1 + 1 ≤ W.heap.size
theorem VwOwn.turnLow {w w' : World} {base b : Nat} {x : Vw} (h : VwOwn w base x) (ht : Turn w w' b none) (hb : b < base) : VwOwn w' base x :=
  ⟨OwnE.turnLow h.ms ht hb, OwnE.turnLow h.lv ht hb, fun y hy => OwnE.turnLow (h.each y hy) ht hb, OwnE.turnLow h.dr ht hb⟩
theorem VwOwn.setFar {w : World} {base : Nat} {x : Vw} (h : VwOwn w base x) {a : Addr} (u : Value) (ha : a.block < base) : VwOwn (w.setCell a u) base x :=
  ⟨OwnE.set_far h.ms u ha, OwnE.set_far h.lv u ha, fun y hy => OwnE.set_far (h.each y hy) u ha, OwnE.set_far h.dr u ha⟩
section
variable {w W W' : World} {b : Nat} {rest rest' : List UInt8} {y : Vw}
theorem GetS.read (h : GetS w W b rest y) (hb : b < w.heap.size) (ht : Turn W W' b none) (hr : RdAt W' b rest' 0) : GetS w W' b rest' y :=
  ⟨h.v.turn ht (by omega) (by simp), h.z.turn ht (by omega) (by simp), h.own.turnLow ht (by omega), hr, h.turn.trans ht (Mov.refl _ _), Nat.le_trans h.sz ht.size⟩
theorem GetS.start (hb : b < w.heap.size) (h : RdAt w b rest 0) : GetS w ((w.alloc (.cells #[.int .u64 0, .slice none 0 0, .slice none 0 0, .slice none 0 0] 31)).alloc (.cells #[.int .u64 0, .slice none 0 0, .slice none 0 0, .slice none 0 0] 31)) b rest zeroX := by
  have v1 := VAt.mk_ (w.alloc (.cells #[.int .u64 0, .slice none 0 0, .slice none 0 0, .slice none 0 0] 31)) zeroX
  rw [World.size_alloc] at v1
  exact ⟨v1, (VAt.mk_ w zeroX).alloc _, zeroX_own _ _, (h.alloc _).alloc _, ((Turn.refl w b none).alloc _).alloc _, by simp⟩
theorem GetS.put0 (h : GetS w W b rest y) (hb : b < w.heap.size) (id : Nat) : GetS w (W.setCell ⟨w.heap.size + 1, 0, none⟩ (.int .u64 (id : Int))) b rest ⟨id, y.A, y.m, y.c, y.l, y.B, y.d, y.e, y.q, y.C, y.f, y.g, y.r⟩ :=
  ⟨heap_setCell_same W (w.heap.size + 1) 0 _ _ _ h.v, h.z.far _ (by simp), ⟨(h.own.setFar _ (by simp)).ms, (h.own.setFar _ (by simp)).lv, (h.own.setFar _ (by simp)).each, (h.own.setFar _ (by simp)).dr⟩, h.rd.other (by simp; omega) _, h.turn.setNew (by simp) _, by simp; exact h.sz⟩
theorem GetS.put1 (h : GetS w W b rest y) (hb : b < w.heap.size) {A : Option Addr} {m c : Nat} {l : List Pr} (ho : OwnE 25 prC 2 W (w.heap.size + 1 + 1) (.slice A m c) m l) : GetS w (W.setCell ⟨w.heap.size + 1, 1, none⟩ (.slice A m c)) b rest ⟨y.id, A, m, c, l, y.B, y.d, y.e, y.q, y.C, y.f, y.g, y.r⟩ :=
  ⟨h.v.set1 A m c l, h.z.far _ (by simp), ⟨OwnE.set_far ho _ (by simp), (h.own.setFar _ (by simp)).lv, (h.own.setFar _ (by simp)).each, (h.own.setFar _ (by simp)).dr⟩, h.rd.other (by simp; omega) _, h.turn.setNew (by simp) _, by simp; exact h.sz⟩
theorem GetS.put3 (h : GetS w W b rest y) (hb : b < w.heap.size) {A : Option Addr} {m c : Nat} {l : List Pr} (ho : OwnE 25 prC 2 W (w.heap.size + 1 + 1) (.slice A m c) m l) : GetS w (W.setCell ⟨w.heap.size + 1, 3, none⟩ (.slice A m c)) b rest ⟨y.id, y.A, y.m, y.c, y.l, y.B, y.d, y.e, y.q, A, m, c, l⟩ :=
  ⟨h.v.set3 A m c l, h.z.far _ (by simp), ⟨(h.own.setFar _ (by simp)).ms, (h.own.setFar _ (by simp)).lv, (h.own.setFar _ (by simp)).each, OwnE.set_far ho _ (by simp)⟩, h.rd.other (by simp; omega) _, h.turn.setNew (by simp) _, by simp; exact h.sz⟩
/-- A leaf that was read is put behind the others: its slice lies in a block of its own, then the row of leaves grows. -/
theorem GetS.leaf (h : GetS w W b rest y) (hb : b < w.heap.size) {A : Option Addr} {m c : Nat} {l : List Pr} (ho : OwnE 25 prC 2 W (w.heap.size + 1 + 1) (.slice A m c) m l) {T : TypeId} {W4 : World} {B2 : Option Addr} {n2 e2 : Nat}
    (hg : (W.alloc (.cells #[.slice A m c] T)).grownBy W4 (Value.slice y.B y.d y.e).ownBlock) (hn : OwnE 28 lfC 1 W4 (w.heap.size + 1 + 1) (.slice B2 n2 e2) n2 (y.q ++ [⟨A, m, c, l⟩])) :
    GetS w (W4.setCell ⟨w.heap.size + 1, 2, none⟩ (.slice B2 n2 e2)) b rest ⟨y.id, y.A, y.m, y.c, y.l, B2, n2, e2, y.q ++ [⟨A, m, c, l⟩], y.C, y.f, y.g, y.r⟩ := by
  have hl : Below W.heap.size W (W.alloc (.cells #[.slice A m c] T)) := (Below.refl _ _).alloc (Nat.le_refl _) _
  have o1 := h.own.later hl
  have hne : ∀ g, (Value.slice y.B y.d y.e).ownBlock = some g → w.heap.size + 1 + 1 ≤ g := fun g hg => (OwnE.lt h.own.lv g hg).1
  have k1 := OwnE.kept_by o1.lv o1.ms (by decide) hg
  have k2 := OwnE.kept_by o1.lv o1.dr (by decide) hg
  have k3 := OwnE.kept_by o1.lv (OwnE.later ho hl) (by decide) hg
  have hs := h.sz
  have hs1 := hl.size
  have v4 : VAt W4 (w.heap.size + 1) y := (hg.block _ (by omega) (fun e => by have := hne _ e.symm; omega)).trans (h.v.later hl)
  have z4 : VAt W4 w.heap.size zeroX := (hg.block _ (by omega) (fun e => by have := hne _ e.symm; omega)).trans (h.z.later hl)
  refine ⟨v4.set2 B2 n2 e2 _, z4.far _ (by simp), ⟨OwnE.set_far k1 _ (by simp), OwnE.set_far hn _ (by simp), fun u hu => ?_, OwnE.set_far k2 _ (by simp)⟩, ((h.rd.alloc _).grown hg (fun g e => by have := hne g e; omega)).other (by simp; omega) _, ((h.turn.alloc _).grownNew hg (fun g e => by have := hne g e; omega)).setNew (by simp) _, ?_⟩
  · dsimp only at hu
    rw [List.mem_append, List.mem_singleton] at hu
    rcases hu with hu | rfl
    · exact OwnE.set_far (OwnE.kept_by o1.lv (o1.each u hu) (by decide) hg) _ (by simp)
    · exact OwnE.set_far k3 _ (by simp)
  · have := hg.size
    simp
    omega
end
end Go.Proofs.Ytdmihbicpjmgjaa
namespace Go.Proofs.Ytdmihbicpjmgjaa
open Go.RowKit Go.Maps
set_option linter.unusedVariables false
set_option linter.unusedSimpArgs false

/-- An append, as a step of a region that draws its order. -/
theorem step_append_e {α : Type} {enc : α → List Value} {k : Nat} {P : Program} {ops : Array Oper} {o : Oper} {a : Act} {K : Act → World → Prop} {Q : Exit → Act → World → Prop} {E' : Prop} (w : World) (hg : o.guard = none) (s x : Operand) (S : TypeId)
    (hop : o.op = Op.call { callee := Callee.builtin Builtin.append, args := #[s, x], argTypes := #[S, S] })
    (E : TypeId) (i : TypeInfo) (z : Value) (bytes : Nat) (hS : P.underlying S = some (.slice E)) (hi : P.info? E = some i) (hz0 : i.zero = some z) (hz1 : i.size = k) (hz2 : i.bytes = bytes) (hz : z.cells.size = k) (H : EncOk enc k)
    (base n : Nat) (v : Value) (l : List α) (hs : a.eval s = v) (hown : OwnE E enc k w base v n l)
    (B : Nat) (A : Option Addr) (m c : Nat) (l2 : List α) (hx : a.eval x = .slice A m c) (hr : Es enc w B A m l2) (b0 : n + m ≤ maxLen) (b1 : (n + m) * bytes ≤ 140737488355328) (hBw : base ≤ w.heap.size)
    (hK : ∀ A' c' w', OwnE E enc k w' base (.slice A' (n + m) c') (n + m) (l ++ l2) → w.heap.size ≤ w'.heap.size → w.grownBy w' v.ownBlock → K (a.put o.dst (.slice A' (n + m) c')) w') :
    if Region.wanted o (yielded ops a.tmps) = true then Oper.wp P o a w K Q else E' := by
  have hw : Region.wanted o (yielded ops a.tmps) = true := by simp [Region.wanted, hg]
  rw [if_pos hw]
  obtain ⟨v', w', hrun, r1, r2, r3, r4⟩ := run_append_e w S o.type E i z bytes hS hi hz0 hz1 hz2 hz H base n v l hown B A m c l2 hr b0 b1 0 w (Below.refl _ _) (Nat.zero_le _) hBw
  obtain ⟨A', c', rfl⟩ := r1.shape
  unfold Oper.wp
  simp [execOp, hop, resolve, invoke, builtin, hs, hx, hrun, Result.andThen]
  exact hK _ _ w' r1 r3 r4
theorem LeavesP.few {mem : List Pr} {lvs : List (List Pr)} (h : LeavesP mem lvs) : lvs.length ≤ mem.length := by
  have := h.firsts.len
  rwa [firstsP_len] at this
theorem lvsL_drop (mem : List Pr) {l : List (List Pr)} {j : Nat} (h : j < l.length) (t : List UInt8) : lvsL mem (l.drop j) ++ t = someL mem l[j] ++ (lvsL mem (l.drop (j + 1)) ++ t) := by
  rw [List.drop_eq_getElem_cons h, lvsL, List.append_assoc]
def VGetP (w : World) (b : Nat) (v : Vi) (t : List UInt8) (e : Ending) (w' : World) : Prop := ∃ y : Vw, e = .returned (.agg #[.int .u64 (y.id : Int), .slice y.A y.m y.c, .slice y.B y.d y.e, .slice y.C y.f y.g]) ∧ y.v = v ∧ VwOwn w' w.heap.size y ∧ VSmall y ∧ RdAt w' b t 0 ∧ Turn w w' b none
/-- The loop's relation. -/
def LvS (w W : World) (b : Nat) (v : Vi) (t : List UInt8) (j : Nat) : Prop :=
  ∃ A c B e q, GetS w W b (lvsL v.mem (v.lvs.drop j) ++ (someL v.mem v.ldr ++ t)) ⟨v.id, A, v.mem.length, c, v.mem, B, j, e, q, none, 0, 0, []⟩ ∧ q.map Lf.l = v.lvs.take j ∧ ∀ y ∈ q, y.m ≤ 40
set_option maxRecDepth 100000 in
set_option maxHeartbeats 4000000 in
theorem vget_any (v : Vi) (b : Nat) (t : List UInt8) (w : World) (h : RdAt w b (viewL v ++ t) 0) (hv : MayV v) :
    Calls Try.prog 39 #[.pointer (some ⟨b, 0, none⟩)] w (VGetP w b v t) := by
  obtain ⟨i0, hi, hz0, hz1, hz2⟩ := info_partsV info_leaf8
  have hb := h.lt
  have e0 : viewL v ++ t = shortL v.id ++ ((shortL v.mem.length ++ pidsL v.mem) ++ (shortL v.lvs.length ++ (lvsL v.mem v.lvs ++ (someL v.mem v.ldr ++ t)))) := by unfold viewL; simp only [List.append_assoc]
  rw [e0] at h
  clear e0
  have g0 := GetS.start hb h
  have hn := hv.mem.most
  have hN : v.lvs.length ≤ 24 := Nat.le_trans hv.lvs.few hn
  have c1 := rdnum_front b v.id 4611686018427387904 _ _ g0.rd hv.hi (by decide)
  go_enter Try.func39, Try.ntmps39
  go_wp2_with fail
  generalize ((w.alloc (.cells #[.int .u64 0, .slice none 0 0, .slice none 0 0, .slice none 0 0] 31)).alloc (.cells #[.int .u64 0, .slice none 0 0, .slice none 0 0, .slice none 0 0] 31)) = w1 at *
  refine c1.mono ?_
  rintro e w2 ⟨rfl, h2, ht2⟩
  have g2 := g0.read hb ht2 h2
  clear g0 h c1 h2 ht2
  have g3 := g2.put0 hb v.id
  obtain ⟨k0, k1, k2, k3⟩ := g2.v.cells
  simp only [zeroX] at k0 k1 k2 k3 g3
  have y0 := g2.v.fz 0
  have c2 := rdpids_front b v.mem.length 24 v.mem _ _ g3.rd rfl (by decide) (by omega) (by decide)
  go_wp2_with fail
  clear k0 k1 k2 k3 y0 g2
  generalize (w2.setCell ⟨w.heap.size + 1, 0, none⟩ (.int .u64 (v.id : Int))) = w3 at *
  refine c2.mono ?_
  rintro e w4 ⟨A, c, rfl, ho, h4, ht4⟩
  have g4 := g3.read hb ht4 h4
  have g5 := g4.put1 hb (OwnE.mono ho g3.sz)
  obtain ⟨k0, k1, k2, k3⟩ := g4.v.cells
  have y0 := g4.v.fz 1
  dsimp only at k0 k1 k2 k3 g5
  have c3 := rdnum_front b v.lvs.length 24 _ _ g5.rd hN (by decide)
  clear g3 g4 h4 ht4 ho c2
  go_wp2_with fail
  clear k0 k1 k2 k3 y0
  generalize (w4.setCell ⟨w.heap.size + 1, 1, none⟩ (.slice A v.mem.length c)) = w5 at *
  refine c3.mono ?_
  rintro e w6 ⟨rfl, h6, ht6⟩
  have g6 := g5.read hb ht6 h6
  have L0 : LvS w w6 b v t 0 := ⟨A, c, none, 0, [], by simpa using g6, by simp, fun y hy => by simp at hy⟩
  clear g5 c3 h6 ht6 g6
  go_wp2
  go_loopw [12] (fun i wr => ∃ j : Nat, j ≤ v.lvs.length ∧ i = .int .u64 j ∧ LvS w wr b v t j) (fun i _ => v.lvs.length - (intOf i).toNat)
  case atStart => exact ⟨0, Nat.zero_le _, rfl, L0⟩
  case round =>
    clear L0
    obtain ⟨j, hj, rfl, A1, c1, B, e, q, gs, hq, hq4⟩ := hrel
    by_cases hlt : j < v.lvs.length
    · have hcap := (OwnE.cap gs.own.lv)
      have hlq := OwnE.len lfOk gs.own.lv
      rw [lvsL_drop v.mem hlt] at gs
      have hlf := hv.lvs.each _ (List.getElem_mem hlt)
      have hll := Nat.le_trans hlf.2.len hn
      have hst : ∀ x : Lf, x.l = v.lvs[j] → (q ++ [x]).map Lf.l = v.lvs.take (j + 1) := fun x hx => by rw [List.map_append, hq, List.take_succ_eq_append_getElem hlt, ← hx]; rfl
      have e4 : IntKind.u64.wrap ((j : Int) + 1) = ((j + 1 : Nat) : Int) := by rw [IntKind.wrap_u64]; omega
      obtain ⟨lf, hlfe⟩ : ∃ lf, lf = v.lvs[j] := ⟨_, rfl⟩
      rw [← hlfe] at gs hlf hll hst
      have cg := getsome_any b v.mem.length c1 A1 v.mem lf _ wr.drew (rdAt_drew gs.rd) (fun W hW => OwnE.es prOk (OwnE.turnLow gs.own.ms (Turn.ahead ((Below.refl _ _).drew) hW) (by omega))) (by omega) hll hlf.2.1
      obtain ⟨k0, k1, k2, k3⟩ := gs.v.cells
      dsimp only at k0 k1 k2 k3
      have HS := hide (And.intro hst (And.intro hq hq4))
      have G1 := hide (fun W (ht : Turn wr W b none) (h : RdAt W b (lvsL v.mem (v.lvs.drop (j + 1)) ++ (someL v.mem v.ldr ++ t)) 0) => gs.read hb ht h)
      have HG := hide gs
      clear hst hq hq4 hlfe gs hcap hlf
      go_wp2_with fail
      have fz2 := HG.out.v.fz 2
      have K1 : wr.drew.cell? ⟨w.heap.size + 1, 1, none⟩ = some (.slice A1 v.mem.length c1) := k1
      have K2 : wr.drew.cell? ⟨w.heap.size + 1, 2, none⟩ = some (.slice B j e) := k2
      go_region_law
        (first | (go_simp; go_at_call 72; (with_reducible refine cg.mono ?_); rintro e9 w7 ⟨A7, c7, rfl, ho7, hr7, ht7'⟩; have ht7 : Turn wr w7 b none := Turn.ahead ((Below.refl _ _).drew) ht7'; have g7 := G1.out w7 ht7 hr7; have f1 : w7.cell? ⟨w.heap.size + 1, 1, none⟩ = some (.slice A1 v.mem.length c1) := g7.v.cells.2.1; have f2 : w7.cell? ⟨w.heap.size + 1, 2, none⟩ = some (.slice B j e) := g7.v.cells.2.2.1; have hl7 : Below w7.heap.size w7 (w7.alloc (.cells #[.slice A7 lf.length c7] 28)) := (Below.refl _ _).alloc (Nat.le_refl _) _; have f3 := cellL f2 hl7; have f4 := cellL f1 hl7; have ho7' : OwnE 25 prC 2 w7 (w.heap.size + 1 + 1) (.slice A7 lf.length c7) lf.length lf := OwnE.mono ho7 HG.out.sz; have hes7 : Es lfC (w7.alloc (.cells #[.slice A7 lf.length c7] 28)) (w7.heap.size + 1) (some ⟨w7.heap.size, 0, none⟩) 1 [(⟨A7, lf.length, c7, lf⟩ : Lf)] := es_block (heap_alloc_new w7 _) (by simp [ec, lfC]) rfl) | (refine step_append_e _ rfl (.tmp 15) (.tmp 20) 29 rfl 28 i0 _ 24 Try.underlying29 hi hz0 hz1 hz2 rfl lfOk (w.heap.size + 1 + 1) j (.slice B j e) q (by simp [Act.eval, Act.put]) (OwnE.later g7.own.lv hl7) (w7.heap.size + 1) (some ⟨w7.heap.size, 0, none⟩) 1 1 [(⟨A7, lf.length, c7, lf⟩ : Lf)] (by simp [Act.eval, Act.put]) hes7 (by unfold maxLen; omega) (by omega) (Nat.le_trans g7.sz hl7.size) ?_; intro B8 e8 w8 ho8 hs8 hg8; have hfin := g7.leaf hb ho7' hg8 ho8; have f6 : w8.cell? ⟨w.heap.size + 1, 1, none⟩ = some (.slice A1 v.mem.length c1) := (hg8.cell_far ⟨w.heap.size + 1, 1, none⟩ (Nat.le_trans g7.sz hl7.size) (fun e9 => Nat.lt_irrefl _ (OwnE.lt g7.own.lv _ e9.symm).1)).trans f4; have f7 : w8.cell? ⟨w.heap.size + 1, 2, none⟩ = some (.slice B j e) := (hg8.cell_far ⟨w.heap.size + 1, 2, none⟩ (Nat.le_trans g7.sz hl7.size) (fun e9 => Nat.lt_irrefl _ (OwnE.lt g7.own.lv _ e9.symm).1)).trans f3; have f9 : w8.frozen? ⟨w.heap.size + 1, 2, none⟩ = false := (hg8.frozen_far ⟨w.heap.size + 1, 2, none⟩ (Nat.le_trans g7.sz hl7.size) (fun e9 => Nat.lt_irrefl _ (OwnE.lt g7.own.lv _ e9.symm).1)).trans ((g7.v.later hl7).fz 2)))
      all_goals
        have hfin := g7.leaf hb ho7' hg8 ho8
        have L1 : LvS w (w8.setCell ⟨w.heap.size + 1, 2, none⟩ (.slice B8 (j + 1) e8)) b v t (j + 1) := ⟨A1, c1, B8, e8, _, hfin, HS.out.1 _ rfl, fun y hy => by
          rw [List.mem_append, List.mem_singleton] at hy
          exact hy.elim (HS.out.2.2 y) (fun e9 => by rw [e9]; exact Nat.le_trans hll (by decide))⟩
        have HL := hide L1
        clear L1 hfin ho7' ho8 hg8 hs8 g7 hes7 hl7 ho7 hr7 ht7 ht7' f1 f2 f3 f4 f6 f7 f9 K1 K2 fz2 HG G1 HS k0 k1 k2 k3 cg
        go_wp2_with fail
        go_roundw
        case rel => exact ⟨j + 1, by omega, by go_num, HL.out⟩
        case measure => simp [intOf]; omega
    · have e8 : lvsL v.mem (v.lvs.drop j) = [] := by rw [List.drop_eq_nil_of_le (by omega)]; rfl
      rw [e8, List.nil_append] at gs
      have hq9 : q.map Lf.l = v.lvs := by rw [hq, List.take_of_length_le (by omega)]
      have hdl := Nat.le_trans hv.ldr.len hn
      have cg := getsome_any b v.mem.length c1 A1 v.mem v.ldr t wr gs.rd (fun W hW => OwnE.es prOk (OwnE.turnLow gs.own.ms hW (by omega))) (by omega) hdl hv.ldr.1
      obtain ⟨k0, k1, k2, k3⟩ := gs.v.cells
      dsimp only at k0 k1 k2 k3
      have HQ := hide (And.intro hq9 hq4)
      clear e8 hq hq9 hq4
      go_wp2_with fail
      refine cg.mono ?_
      rintro e9 w7 ⟨A7, c7, rfl, ho7, hr7, ht7⟩
      have g7 := gs.read hb ht7 hr7
      have g8 := g7.put3 hb (OwnE.mono ho7 gs.sz)
      clear k0 k1 k2 k3
      obtain ⟨k0, k1, k2, k3⟩ := g7.v.cells
      have y3 := g7.v.fz 3
      dsimp only at k0 k1 k2 k3 g8
      have hyv : (⟨v.id, A1, v.mem.length, c1, v.mem, B, j, e, q, A7, v.ldr.length, c7, v.ldr⟩ : Vw).v = v := by
        show (⟨v.id, v.mem, q.map Lf.l, v.ldr⟩ : Vi) = v
        rw [HQ.out.1]
      have hys : VSmall ⟨v.id, A1, v.mem.length, c1, v.mem, B, j, e, q, A7, v.ldr.length, c7, v.ldr⟩ := ⟨by show v.mem.length ≤ 40; omega, by show j ≤ 40; omega, by show v.ldr.length ≤ 40; omega, HQ.out.2⟩
      have hid : v.id < 18446744073709551616 := by have := hv.hi; omega
      have ck := check_any ⟨v.id, A1, v.mem.length, c1, v.mem, B, j, e, q, A7, v.ldr.length, c7, v.ldr⟩ _ _ true (g8.own.in_ hid) hys (Nat.le_refl _) ⟨fun _ => by rw [hyv]; exact hv, fun _ => rfl⟩
      rw [show ckI true = 0 from rfl] at ck
      have q0 := g8.v.cells
      obtain ⟨q0, q1, q2, q3⟩ := q0
      dsimp only at q0 q1 q2 q3
      clear gs cg ho7 hr7 ht7 g7
      go_wp2_with fail
      generalize (w7.setCell ⟨w.heap.size + 1, 3, none⟩ (.slice A7 v.ldr.length c7)) = w8 at *
      refine ck.mono ?_
      rintro e9 w9 ⟨rfl, hb9⟩
      have g9 := g8.read hb (Turn.of_below hb9 b none) (g8.rd.later hb9)
      have ce := err_any b t 0 w9 g9.rd
      clear g8 ck q0 q1 q2 q3 k0 k1 k2 k3 y3 hb9
      obtain ⟨k0, k1, k2, k3⟩ := g9.v.cells
      obtain ⟨j0, j1, j2, j3⟩ := g9.z.cells
      dsimp only at k0 k1 k2 k3
      simp only [zeroX] at j0 j1 j2 j3
      have y1 := g9.v.lt
      have y2 := g9.z.lt
      have x0 := g9.z.fz 0
      have x1 := g9.z.fz 1
      have x2 := g9.z.fz 2
      have x3 := g9.z.fz 3
      have z9 := g9.z.put ⟨v.id, A1, v.mem.length, c1, v.mem, B, j, e, q, A7, v.ldr.length, c7, v.ldr⟩
      have o9 : VwOwn (put4 w9 w.heap.size ⟨v.id, A1, v.mem.length, c1, v.mem, B, j, e, q, A7, v.ldr.length, c7, v.ldr⟩) w.heap.size ⟨v.id, A1, v.mem.length, c1, v.mem, B, j, e, q, A7, v.ldr.length, c7, v.ldr⟩ :=
        VwOwn.mono ((((g9.own.setFar (a := ⟨w.heap.size, 0, none⟩) _ (by show w.heap.size < w.heap.size + 1 + 1; omega)).setFar (a := ⟨w.heap.size, 1, none⟩) _ (by show w.heap.size < w.heap.size + 1 + 1; omega)).setFar (a := ⟨w.heap.size, 2, none⟩) _ (by show w.heap.size < w.heap.size + 1 + 1; omega)).setFar (a := ⟨w.heap.size, 3, none⟩) _ (by show w.heap.size < w.heap.size + 1 + 1; omega)) (by omega)
      have r9 : RdAt (put4 w9 w.heap.size ⟨v.id, A1, v.mem.length, c1, v.mem, B, j, e, q, A7, v.ldr.length, c7, v.ldr⟩) b t 0 := (((g9.rd.other (p := ⟨w.heap.size, 0, none⟩) hb _).other (p := ⟨w.heap.size, 1, none⟩) hb _).other (p := ⟨w.heap.size, 2, none⟩) hb _).other (p := ⟨w.heap.size, 3, none⟩) hb _
      have t9 : Turn w (put4 w9 w.heap.size ⟨v.id, A1, v.mem.length, c1, v.mem, B, j, e, q, A7, v.ldr.length, c7, v.ldr⟩) b none := (((g9.turn.setNew (p := ⟨w.heap.size, 0, none⟩) (Nat.le_refl _) _).setNew (p := ⟨w.heap.size, 1, none⟩) (Nat.le_refl _) _).setNew (p := ⟨w.heap.size, 2, none⟩) (Nat.le_refl _) _).setNew (p := ⟨w.heap.size, 3, none⟩) (Nat.le_refl _) _
      have HF := hide (And.intro z9 (And.intro o9 (And.intro r9 t9)))
      clear z9 o9 r9 t9 g9
      go_wp2_with fail
      refine ce.mono ?_
      rintro e9 w10 ⟨rfl, rfl⟩
      clear ce
      go_wp2
      obtain ⟨z9, o9, r9, t9⟩ := HF.out
      obtain ⟨t0, t1, t2, t3⟩ := z9.cells
      clear z9 HF k0 k1 k2 k3 j0 j1 j2 j3 y1 y2 x0 x1 x2 x3
      simp only [put4] at t0 t1 t2 t3 o9 r9 t9
      refine bodyPost_ret (v := .agg #[.int .u64 (v.id : Int), .slice A1 v.mem.length c1, .slice B j e, .slice A7 v.ldr.length c7]) (by simp [results, Try.results39, go_sem, t0, t1, t2, t3]) rfl ⟨⟨v.id, A1, v.mem.length, c1, v.mem, B, j, e, q, A7, v.ldr.length, c7, v.ldr⟩, rfl, hyv, o9, hys, r9, t9⟩
end Go.Proofs.Ytdmihbicpjmgjaa
