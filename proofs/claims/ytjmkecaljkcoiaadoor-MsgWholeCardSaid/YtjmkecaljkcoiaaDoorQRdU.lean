/-
  Layer 8: the contract of Get, where a view's form stands at the beginning.
-/
import Derived.Deep.RegionLaw
import Derived.Test.YtjmkecaljkcoiaaDoorQViewR
namespace Go.Proofs.YtjmkecaljkcoiaaDoor
open Go.RowKit Go.Maps
set_option linter.unusedVariables false
set_option linter.unusedSimpArgs false

/-- An append, as a step of a region that draws its order. -/
theorem step_append_e {α : Type} {enc : α → List Value} {k : Nat} {P : Program} {ops : Array Oper} {o : Oper} {a : Act} {K : Act → World → Prop} {Q : Exit → Act → World → Prop} {E' : Prop} (w : World) (hg : o.guard = none) (s x : Operand) (S : TypeId)
    (hop : o.op = Op.call { callee := Callee.builtin Builtin.append, args := #[s, x], argTypes := #[S, S] })
    (E : TypeId) (i : TypeInfo) (z : Value) (bytes : Nat) (hS : P.underlying S = some (.slice E)) (hi : P.info? E = some i) (hz0 : i.zero = some z) (hz1 : i.size = k) (hz2 : i.bytes = bytes) (hz : z.cells.size = k) (H : EncOk enc k)
    (base n : Nat) (v : Value) (l : List α) (hs : a.eval s = v) (hown : OwnE E enc k w base v n l)
    (B : Nat) (A : Option Addr) (m c : Nat) (l2 : List α) (hx : a.eval x = .slice A m c) (hr : Es enc w B A m l2) (b0 : n + m ≤ maxLen) (b1 : (n + m) * bytes ≤ 140737488355328) (hBw : base ≤ w.heap.size)
    (hK : ∀ A' c' w', OwnE E enc k w' base (.slice A' (n + m) c') (n + m) (l ++ l2) → w.heap.size ≤ w'.heap.size → w.grownBy w' v.ownBlock → K (a.put o.dst (.slice A' (n + m) c')) w') :
    if Region.wanted o (yielded ops a.tmps) = true then Oper.wp P o a w K Q else E' := by
  have hw : Region.wanted o (yielded ops a.tmps) = true := by simp [Region.wanted, hg]
  rw [if_pos hw]
  obtain ⟨v', w', hrun, r1, r2, r3, r4⟩ := run_append_e w S o.type E i z bytes hS hi hz0 hz1 hz2 hz H base n v l hown B A m c l2 hr b0 b1 0 w (Below.refl _ _) (Nat.zero_le _) hBw
  obtain ⟨A', c', rfl⟩ := r1.shape
  unfold Oper.wp
  simp [execOp, hop, resolve, invoke, builtin, hs, hx, hrun, Result.andThen]
  exact hK _ _ w' r1 r3 r4
theorem LeavesP.few {mem : List Pr} {lvs : List (List Pr)} (h : LeavesP mem lvs) : lvs.length ≤ mem.length := by
  have := h.firsts.len
  rwa [firstsP_len] at this
theorem lvsL_drop (mem : List Pr) {l : List (List Pr)} {j : Nat} (h : j < l.length) (t : List UInt8) : lvsL mem (l.drop j) ++ t = someL mem l[j] ++ (lvsL mem (l.drop (j + 1)) ++ t) := by
  rw [List.drop_eq_getElem_cons h, lvsL, List.append_assoc]
def VGetP (w : World) (b : Nat) (v : Vi) (t : List UInt8) (e : Ending) (w' : World) : Prop := ∃ y : Vw, e = .returned (.agg #[.int .u64 (y.id : Int), .slice y.A y.m y.c, .slice y.B y.d y.e, .slice y.C y.f y.g]) ∧ y.v = v ∧ VwOwn w' w.heap.size y ∧ VSmall y ∧ RdAt w' b t 0 ∧ Turn w w' b none
/-- The loop's relation. -/
def LvS (w W : World) (b : Nat) (v : Vi) (t : List UInt8) (j : Nat) : Prop :=
  ∃ A c B e q, GetS w W b (lvsL v.mem (v.lvs.drop j) ++ (someL v.mem v.ldr ++ t)) ⟨v.id, A, v.mem.length, c, v.mem, B, j, e, q, none, 0, 0, []⟩ ∧ q.map Lf.l = v.lvs.take j ∧ ∀ y ∈ q, y.m ≤ 40
set_option maxRecDepth 100000 in
set_option maxHeartbeats 4000000 in
theorem vget_any (v : Vi) (b : Nat) (t : List UInt8) (w : World) (h : RdAt w b (viewL v ++ t) 0) (hv : MayV v) :
    Calls Tryd.prog 87 #[.pointer (some ⟨b, 0, none⟩)] w (VGetP w b v t) := by
  obtain ⟨i0, hi, hz0, hz1, hz2⟩ := info_partsV info_leaf8
  have hb := h.lt
  have e0 : viewL v ++ t = shortL v.id ++ ((shortL v.mem.length ++ pidsL v.mem) ++ (shortL v.lvs.length ++ (lvsL v.mem v.lvs ++ (someL v.mem v.ldr ++ t)))) := by unfold viewL; simp only [List.append_assoc]
  rw [e0] at h
  clear e0
  have g0 := GetS.start hb h
  have hn := hv.mem.most
  have hN : v.lvs.length ≤ 24 := Nat.le_trans hv.lvs.few hn
  have c1 := rdnum_front b v.id 4611686018427387904 _ _ g0.rd hv.hi (by decide)
  go_enter Tryd.func87, Tryd.ntmps87
  go_wp2_with fail
  generalize ((w.alloc (.cells #[.int .u64 0, .slice none 0 0, .slice none 0 0, .slice none 0 0] 33)).alloc (.cells #[.int .u64 0, .slice none 0 0, .slice none 0 0, .slice none 0 0] 33)) = w1 at *
  refine c1.mono ?_
  rintro e w2 ⟨rfl, h2, ht2⟩
  have g2 := g0.read hb ht2 h2
  clear g0 h c1 h2 ht2
  have g3 := g2.put0 hb v.id
  obtain ⟨k0, k1, k2, k3⟩ := g2.v.cells
  simp only [zeroX] at k0 k1 k2 k3 g3
  have y0 := g2.v.fz 0
  have c2 := rdpids_front b v.mem.length 24 v.mem _ _ g3.rd rfl (by decide) (by omega) (by decide)
  go_wp2_with fail
  clear k0 k1 k2 k3 y0 g2
  generalize (w2.setCell ⟨w.heap.size + 1, 0, none⟩ (.int .u64 (v.id : Int))) = w3 at *
  refine c2.mono ?_
  rintro e w4 ⟨A, c, rfl, ho, h4, ht4⟩
  have g4 := g3.read hb ht4 h4
  have g5 := g4.put1 hb (OwnE.mono ho g3.sz)
  obtain ⟨k0, k1, k2, k3⟩ := g4.v.cells
  have y0 := g4.v.fz 1
  dsimp only at k0 k1 k2 k3 g5
  have c3 := rdnum_front b v.lvs.length 24 _ _ g5.rd hN (by decide)
  clear g3 g4 h4 ht4 ho c2
  go_wp2_with fail
  clear k0 k1 k2 k3 y0
  generalize (w4.setCell ⟨w.heap.size + 1, 1, none⟩ (.slice A v.mem.length c)) = w5 at *
  refine c3.mono ?_
  rintro e w6 ⟨rfl, h6, ht6⟩
  have g6 := g5.read hb ht6 h6
  have L0 : LvS w w6 b v t 0 := ⟨A, c, none, 0, [], by simpa using g6, by simp, fun y hy => by simp at hy⟩
  clear g5 c3 h6 ht6 g6
  go_wp2
  go_loopw [12] (fun i wr => ∃ j : Nat, j ≤ v.lvs.length ∧ i = .int .u64 j ∧ LvS w wr b v t j) (fun i _ => v.lvs.length - (intOf i).toNat)
  case atStart => exact ⟨0, Nat.zero_le _, rfl, L0⟩
  case round =>
    clear L0
    obtain ⟨j, hj, rfl, A1, c1, B, e, q, gs, hq, hq4⟩ := hrel
    by_cases hlt : j < v.lvs.length
    · have hcap := (OwnE.cap gs.own.lv)
      have hlq := OwnE.len lfOk gs.own.lv
      rw [lvsL_drop v.mem hlt] at gs
      have hlf := hv.lvs.each _ (List.getElem_mem hlt)
      have hll := Nat.le_trans hlf.2.len hn
      have hst : ∀ x : Lf, x.l = v.lvs[j] → (q ++ [x]).map Lf.l = v.lvs.take (j + 1) := fun x hx => by rw [List.map_append, hq, List.take_succ_eq_append_getElem hlt, ← hx]; rfl
      have e4 : IntKind.u64.wrap ((j : Int) + 1) = ((j + 1 : Nat) : Int) := by rw [IntKind.wrap_u64]; omega
      obtain ⟨lf, hlfe⟩ : ∃ lf, lf = v.lvs[j] := ⟨_, rfl⟩
      rw [← hlfe] at gs hlf hll hst
      have cg := getsome_any b v.mem.length c1 A1 v.mem lf _ wr.drew (rdAt_drew gs.rd) (fun W hW => OwnE.es prOk (OwnE.turnLow gs.own.ms (Turn.ahead ((Below.refl _ _).drew) hW) (by omega))) (by omega) hll hlf.2.1
      obtain ⟨k0, k1, k2, k3⟩ := gs.v.cells
      dsimp only at k0 k1 k2 k3
      have HS := hide (And.intro hst (And.intro hq hq4))
      have G1 := hide (fun W (ht : Turn wr W b none) (h : RdAt W b (lvsL v.mem (v.lvs.drop (j + 1)) ++ (someL v.mem v.ldr ++ t)) 0) => gs.read hb ht h)
      have HG := hide gs
      clear hst hq hq4 hlfe gs hcap hlf
      go_wp2_with fail
      have fz2 := HG.out.v.fz 2
      have K1 : wr.drew.cell? ⟨w.heap.size + 1, 1, none⟩ = some (.slice A1 v.mem.length c1) := k1
      have K2 : wr.drew.cell? ⟨w.heap.size + 1, 2, none⟩ = some (.slice B j e) := k2
      go_region_law
        (first | (go_simp; go_at_call 121; (with_reducible refine cg.mono ?_); rintro e9 w7 ⟨A7, c7, rfl, ho7, hr7, ht7'⟩; have ht7 : Turn wr w7 b none := Turn.ahead ((Below.refl _ _).drew) ht7'; have g7 := G1.out w7 ht7 hr7; have f1 : w7.cell? ⟨w.heap.size + 1, 1, none⟩ = some (.slice A1 v.mem.length c1) := g7.v.cells.2.1; have f2 : w7.cell? ⟨w.heap.size + 1, 2, none⟩ = some (.slice B j e) := g7.v.cells.2.2.1; have hl7 : Below w7.heap.size w7 (w7.alloc (.cells #[.slice A7 lf.length c7] 30)) := (Below.refl _ _).alloc (Nat.le_refl _) _; have f3 := cellL f2 hl7; have f4 := cellL f1 hl7; have ho7' : OwnE 25 prC 2 w7 (w.heap.size + 1 + 1) (.slice A7 lf.length c7) lf.length lf := OwnE.mono ho7 HG.out.sz; have hes7 : Es lfC (w7.alloc (.cells #[.slice A7 lf.length c7] 30)) (w7.heap.size + 1) (some ⟨w7.heap.size, 0, none⟩) 1 [(⟨A7, lf.length, c7, lf⟩ : Lf)] := es_block (heap_alloc_new w7 _) (by simp [ec, lfC]) rfl) | (refine step_append_e _ rfl (.tmp 15) (.tmp 20) 31 rfl 30 i0 _ 24 Tryd.underlying31 hi hz0 hz1 hz2 rfl lfOk (w.heap.size + 1 + 1) j (.slice B j e) q (by simp [Act.eval, Act.put]) (OwnE.later g7.own.lv hl7) (w7.heap.size + 1) (some ⟨w7.heap.size, 0, none⟩) 1 1 [(⟨A7, lf.length, c7, lf⟩ : Lf)] (by simp [Act.eval, Act.put]) hes7 (by unfold maxLen; omega) (by omega) (Nat.le_trans g7.sz hl7.size) ?_; intro B8 e8 w8 ho8 hs8 hg8; have hfin := g7.leaf hb ho7' hg8 ho8; have f6 : w8.cell? ⟨w.heap.size + 1, 1, none⟩ = some (.slice A1 v.mem.length c1) := (hg8.cell_far ⟨w.heap.size + 1, 1, none⟩ (Nat.le_trans g7.sz hl7.size) (fun e9 => Nat.lt_irrefl _ (OwnE.lt g7.own.lv _ e9.symm).1)).trans f4; have f7 : w8.cell? ⟨w.heap.size + 1, 2, none⟩ = some (.slice B j e) := (hg8.cell_far ⟨w.heap.size + 1, 2, none⟩ (Nat.le_trans g7.sz hl7.size) (fun e9 => Nat.lt_irrefl _ (OwnE.lt g7.own.lv _ e9.symm).1)).trans f3; have f9 : w8.frozen? ⟨w.heap.size + 1, 2, none⟩ = false := (hg8.frozen_far ⟨w.heap.size + 1, 2, none⟩ (Nat.le_trans g7.sz hl7.size) (fun e9 => Nat.lt_irrefl _ (OwnE.lt g7.own.lv _ e9.symm).1)).trans ((g7.v.later hl7).fz 2)))
      all_goals
        have hfin := g7.leaf hb ho7' hg8 ho8
        have L1 : LvS w (w8.setCell ⟨w.heap.size + 1, 2, none⟩ (.slice B8 (j + 1) e8)) b v t (j + 1) := ⟨A1, c1, B8, e8, _, hfin, HS.out.1 _ rfl, fun y hy => by
          rw [List.mem_append, List.mem_singleton] at hy
          exact hy.elim (HS.out.2.2 y) (fun e9 => by rw [e9]; exact Nat.le_trans hll (by decide))⟩
        have HL := hide L1
        clear L1 hfin ho7' ho8 hg8 hs8 g7 hes7 hl7 ho7 hr7 ht7 ht7' f1 f2 f3 f4 f6 f7 f9 K1 K2 fz2 HG G1 HS k0 k1 k2 k3 cg
        go_wp2_with fail
        go_roundw
        case rel => exact ⟨j + 1, by omega, by go_num, HL.out⟩
        case measure => simp [intOf]; omega
    · have e8 : lvsL v.mem (v.lvs.drop j) = [] := by rw [List.drop_eq_nil_of_le (by omega)]; rfl
      rw [e8, List.nil_append] at gs
      have hq9 : q.map Lf.l = v.lvs := by rw [hq, List.take_of_length_le (by omega)]
      have hdl := Nat.le_trans hv.ldr.len hn
      have cg := getsome_any b v.mem.length c1 A1 v.mem v.ldr t wr gs.rd (fun W hW => OwnE.es prOk (OwnE.turnLow gs.own.ms hW (by omega))) (by omega) hdl hv.ldr.1
      obtain ⟨k0, k1, k2, k3⟩ := gs.v.cells
      dsimp only at k0 k1 k2 k3
      have HQ := hide (And.intro hq9 hq4)
      clear e8 hq hq9 hq4
      go_wp2_with fail
      refine cg.mono ?_
      rintro e9 w7 ⟨A7, c7, rfl, ho7, hr7, ht7⟩
      have g7 := gs.read hb ht7 hr7
      have g8 := g7.put3 hb (OwnE.mono ho7 gs.sz)
      clear k0 k1 k2 k3
      obtain ⟨k0, k1, k2, k3⟩ := g7.v.cells
      have y3 := g7.v.fz 3
      dsimp only at k0 k1 k2 k3 g8
      have hyv : (⟨v.id, A1, v.mem.length, c1, v.mem, B, j, e, q, A7, v.ldr.length, c7, v.ldr⟩ : Vw).v = v := by
        show (⟨v.id, v.mem, q.map Lf.l, v.ldr⟩ : Vi) = v
        rw [HQ.out.1]
      have hys : VSmall ⟨v.id, A1, v.mem.length, c1, v.mem, B, j, e, q, A7, v.ldr.length, c7, v.ldr⟩ := ⟨by show v.mem.length ≤ 40; omega, by show j ≤ 40; omega, by show v.ldr.length ≤ 40; omega, HQ.out.2⟩
      have hid : v.id < 18446744073709551616 := by have := hv.hi; omega
      have ck := check_any ⟨v.id, A1, v.mem.length, c1, v.mem, B, j, e, q, A7, v.ldr.length, c7, v.ldr⟩ _ _ true (g8.own.in_ hid) hys (Nat.le_refl _) ⟨fun _ => by rw [hyv]; exact hv, fun _ => rfl⟩
      rw [show ckI true = 0 from rfl] at ck
      have q0 := g8.v.cells
      obtain ⟨q0, q1, q2, q3⟩ := q0
      dsimp only at q0 q1 q2 q3
      clear gs cg ho7 hr7 ht7 g7
      go_wp2_with fail
      generalize (w7.setCell ⟨w.heap.size + 1, 3, none⟩ (.slice A7 v.ldr.length c7)) = w8 at *
      refine ck.mono ?_
      rintro e9 w9 ⟨rfl, hb9⟩
      have g9 := g8.read hb (Turn.of_below hb9 b none) (g8.rd.later hb9)
      have ce := err_any b t 0 w9 g9.rd
      clear g8 ck q0 q1 q2 q3 k0 k1 k2 k3 y3 hb9
      obtain ⟨k0, k1, k2, k3⟩ := g9.v.cells
      obtain ⟨j0, j1, j2, j3⟩ := g9.z.cells
      dsimp only at k0 k1 k2 k3
      simp only [zeroX] at j0 j1 j2 j3
      have y1 := g9.v.lt
      have y2 := g9.z.lt
      have x0 := g9.z.fz 0
      have x1 := g9.z.fz 1
      have x2 := g9.z.fz 2
      have x3 := g9.z.fz 3
      have z9 := g9.z.put ⟨v.id, A1, v.mem.length, c1, v.mem, B, j, e, q, A7, v.ldr.length, c7, v.ldr⟩
      have o9 : VwOwn (put4 w9 w.heap.size ⟨v.id, A1, v.mem.length, c1, v.mem, B, j, e, q, A7, v.ldr.length, c7, v.ldr⟩) w.heap.size ⟨v.id, A1, v.mem.length, c1, v.mem, B, j, e, q, A7, v.ldr.length, c7, v.ldr⟩ :=
        VwOwn.mono ((((g9.own.setFar (a := ⟨w.heap.size, 0, none⟩) _ (by show w.heap.size < w.heap.size + 1 + 1; omega)).setFar (a := ⟨w.heap.size, 1, none⟩) _ (by show w.heap.size < w.heap.size + 1 + 1; omega)).setFar (a := ⟨w.heap.size, 2, none⟩) _ (by show w.heap.size < w.heap.size + 1 + 1; omega)).setFar (a := ⟨w.heap.size, 3, none⟩) _ (by show w.heap.size < w.heap.size + 1 + 1; omega)) (by omega)
      have r9 : RdAt (put4 w9 w.heap.size ⟨v.id, A1, v.mem.length, c1, v.mem, B, j, e, q, A7, v.ldr.length, c7, v.ldr⟩) b t 0 := (((g9.rd.other (p := ⟨w.heap.size, 0, none⟩) hb _).other (p := ⟨w.heap.size, 1, none⟩) hb _).other (p := ⟨w.heap.size, 2, none⟩) hb _).other (p := ⟨w.heap.size, 3, none⟩) hb _
      have t9 : Turn w (put4 w9 w.heap.size ⟨v.id, A1, v.mem.length, c1, v.mem, B, j, e, q, A7, v.ldr.length, c7, v.ldr⟩) b none := (((g9.turn.setNew (p := ⟨w.heap.size, 0, none⟩) (Nat.le_refl _) _).setNew (p := ⟨w.heap.size, 1, none⟩) (Nat.le_refl _) _).setNew (p := ⟨w.heap.size, 2, none⟩) (Nat.le_refl _) _).setNew (p := ⟨w.heap.size, 3, none⟩) (Nat.le_refl _) _
      have HF := hide (And.intro z9 (And.intro o9 (And.intro r9 t9)))
      clear z9 o9 r9 t9 g9
      go_wp2_with fail
      refine ce.mono ?_
      rintro e9 w10 ⟨rfl, rfl⟩
      clear ce
      go_wp2
      obtain ⟨z9, o9, r9, t9⟩ := HF.out
      obtain ⟨t0, t1, t2, t3⟩ := z9.cells
      clear z9 HF k0 k1 k2 k3 j0 j1 j2 j3 y1 y2 x0 x1 x2 x3
      simp only [put4] at t0 t1 t2 t3 o9 r9 t9
      refine bodyPost_ret (v := .agg #[.int .u64 (v.id : Int), .slice A1 v.mem.length c1, .slice B j e, .slice A7 v.ldr.length c7]) (by simp [results, Tryd.results87, go_sem, t0, t1, t2, t3]) rfl ⟨⟨v.id, A1, v.mem.length, c1, v.mem, B, j, e, q, A7, v.ldr.length, c7, v.ldr⟩, rfl, hyv, o9, hys, r9, t9⟩
end Go.Proofs.YtjmkecaljkcoiaaDoor
namespace Go.Proofs.YtjmkecaljkcoiaaDoor
open Go.RowKit Go.Maps
set_option linter.unusedVariables false
set_option linter.unusedSimpArgs false

/-- n ranks are still to come behind acc. -/
def SomInv (mem : List Pr) (N : Nat) (s0 : RS) (n : Nat) (acc : List Pr) (s : RS) : Prop :=
  (s.t = 0 ∧ somR mem N s0 = (acc ++ (somR mem n s).1, (somR mem n s).2)) ∨ (s.t ≠ 0 ∧ (somR mem N s0).2 = s)
theorem SomInv.start (mem : List Pr) (N : Nat) (s0 : RS) (h : s0.t ≠ 0 → N = 0) : SomInv mem N s0 N [] s0 := by
  by_cases h0 : s0.t = 0
  · exact .inl ⟨h0, rfl⟩
  · obtain rfl := h h0
    exact .inr ⟨h0, rfl⟩
theorem SomInv.step {mem : List Pr} {N n : Nat} {s0 s : RS} {acc : List Pr} (h : SomInv mem N s0 (n + 1) acc s) : SomInv mem N s0 n (acc ++ [mem.getD (numS (mem.length - 1) s).1 default]) (numS (mem.length - 1) s).2 := by
  rcases h with ⟨h0, h1⟩ | ⟨h0, h1⟩
  · rw [somR] at h1
    by_cases hr : (numS (mem.length - 1) s).2.t = 0
    · rw [if_pos hr] at h1
      exact .inl ⟨hr, by rw [h1]; simp⟩
    · rw [if_neg hr] at h1
      exact .inr ⟨hr, by rw [h1]⟩
  · rw [numS_stop h0]
    exact .inr ⟨h0, h1⟩
theorem SomInv.done {mem : List Pr} {N : Nat} {s0 s : RS} {acc : List Pr} (h : SomInv mem N s0 0 acc s) : (somR mem N s0).2 = s ∧ (s.t = 0 → acc = (somR mem N s0).1) := by
  rcases h with ⟨h0, h1⟩ | ⟨h0, h1⟩
  · rw [h1]
    simp [somR]
  · exact ⟨h1, fun e => absurd e h0⟩
/-- What getSome answers: what it should, if nothing stopped it. -/
def SomT (w : World) (b : Nat) (r : List Pr × RS) (e : Ending) (w' : World) : Prop :=
  ∃ A c q, e = .returned (.slice A (List.length q) c) ∧ OwnP w' w.heap.size (.slice A (List.length q) c) q.length q ∧ q.length ≤ 24 ∧ RdAt w' b r.2.l r.2.t ∧ Turn w w' b none ∧ (r.2.t = 0 → q = r.1)
set_option maxRecDepth 100000 in
set_option maxHeartbeats 4000000 in
theorem getsome_tot (b n c : Nat) (A : Option Addr) (mem : List Pr) (s : RS) (w : World) (h : RdAt w b s.l s.t) (hM : ∀ W, Turn w W b none → Es prC W W.heap.size A n mem) (hn : n ≤ 40) :
    Calls Tryd.prog 121 #[.pointer (some ⟨b, 0, none⟩), .slice A n c] w (SomT w b (someS mem s)) := by
  obtain ⟨i0, hi, hz0, hz1, hz2⟩ := info_parts info_pid
  have hmn := (hM w (Turn.refl _ _ _)).len
  have hlt := h.lt
  have cn : Calls Tryd.prog 52 #[.pointer (some ⟨b, 0, none⟩), .int .u64 24] w (ReadsP w b (.int .u64 ((numS 24 s).1 : Nat)) (numS 24 s).2.l (numS 24 s).2.t) := rdnum_tot b 24 s w h (by decide)
  have hle := numS_le 24 s
  have hz := @numS_zero 24 s
  have hS : someS mem s = if (numS 24 s).1 = 0 then ([], (numS 24 s).2) else if mem = [] then ([], ⟨(numS 24 s).2.l, 3⟩) else somR mem (numS 24 s).1 (numS 24 s).2 := rfl
  generalize someS mem s = RES at *
  obtain ⟨N, hN⟩ : ∃ N, N = (numS 24 s).1 := ⟨_, rfl⟩
  obtain ⟨s1, hs1⟩ : ∃ s1, s1 = (numS 24 s).2 := ⟨_, rfl⟩
  rw [← hN, ← hs1] at cn
  rw [← hN, ← hs1] at hS
  rw [← hN] at hle
  rw [← hN, ← hs1] at hz
  clear hN hs1 h
  have HM := hide hM
  have HS := hide hS
  have HZ := hide hz
  clear hM hS hz
  go_enter Tryd.func121, Tryd.ntmps121
  go_wp2_with fail
  refine cn.mono ?_
  rintro e w2 ⟨rfl, h2, ht2⟩
  clear cn
  by_cases hm0 : n = 0
  · subst hm0
    have hme : mem = [] := List.eq_nil_of_length_eq_zero hmn
    by_cases hN0 : N = 0
    · subst hN0
      have hw : SomT w b RES (.returned (.slice none 0 0)) w2 := ⟨none, 0, [], rfl, OwnE.nil_ _ _, Nat.zero_le _, by rw [HS.out, if_pos rfl]; exact h2, ht2, fun _ => by rw [HS.out, if_pos rfl]⟩
      have HW := hide hw
      clear hw h2 ht2 hme
      go_wp2
      go_loopw [5, 8] (fun v i wr => v = .slice none 0 0 ∧ i = .int .u64 ((0 : Nat) : Int) ∧ wr = w2) (fun _ i _ => 0)
      case atStart => exact ⟨rfl, rfl, rfl⟩
      case round =>
        obtain ⟨rfl, rfl, rfl⟩ := hrel
        go_wp2
        go_ret
        exact HW.out
    · have ht0 : s1.t = 0 := by
        by_cases e : s1.t = 0
        · exact e
        · exact absurd (HZ.out e) hN0
      rw [ht0] at h2
      have cs : Calls Tryd.prog 95 #[.pointer (some ⟨b, 0, none⟩), .int .i64 3] w2 (ReadsP w2 b (.tuple #[]) s1.l 3) := stop_first b s1.l 3 w2 h2
      have x1 : decide ((0 : Int) < (N : Int)) = true := decide_eq_true (by omega)
      have x2 : 0 < N := by omega
      have HN := hide hN0
      clear hN0 ht0
      go_wp2
      go_loopw [5, 8] (fun v i wr => v = .slice none 0 0 ∧ i = .int .u64 ((0 : Nat) : Int) ∧ wr = w2) (fun _ i _ => 0)
      case atStart => exact ⟨rfl, rfl, rfl⟩
      case round =>
        obtain ⟨rfl, rfl, rfl⟩ := hrel
        go_wp2_with fail
        refine cs.mono ?_
        rintro e w3 ⟨rfl, h3, ht3⟩
        have hw : SomT w b RES (.returned (.slice none 0 0)) w3 := ⟨none, 0, [], rfl, OwnE.nil_ _ _, Nat.zero_le _, by rw [HS.out, if_neg HN.out, if_pos hme]; exact h3, ht2.trans ht3 (Mov.refl _ _), fun _ => by rw [HS.out, if_neg HN.out, if_pos hme]⟩
        have HW := hide hw
        clear hw h3 ht3 cs hme
        go_wp2
        go_ret
        exact HW.out
  have hme : mem ≠ [] := fun e => hm0 (by rw [← hmn, e]; rfl)
  have I0 := SomInv.start mem N s1 HZ.out
  go_wp2
  go_loopw [5, 8] (fun v i wr => ∃ (j : Nat) (A' : Option Addr) (c' : Nat) (q : List Pr) (s' : RS), j ≤ N ∧ i = .int .u64 j ∧ v = .slice A' j c' ∧ OwnP wr w.heap.size (.slice A' j c') j q ∧ RdAt wr b s'.l s'.t ∧ Turn w wr b none ∧ SomInv mem N s1 (N - j) q s') (fun _ i _ => N - (intOf i).toNat)
  case atStart => exact ⟨0, none, 0, [], s1, Nat.zero_le _, rfl, rfl, OwnE.nil_ _ _, h2, ht2, I0⟩
  case round =>
    clear h2 ht2 I0
    obtain ⟨j, A', c', q, s', hj, rfl, rfl, hO, hR, hT, hI⟩ := hrel
    have hsz := hT.size
    by_cases hjl : j < N
    · obtain ⟨m, hm⟩ : ∃ m, n = m + 1 := ⟨n - 1, by omega⟩
      obtain ⟨i, hi'⟩ : ∃ i, N - j = i + 1 := ⟨N - j - 1, by omega⟩
      have e0 : N - (j + 1) = i := by omega
      rw [hi'] at hI
      have hst := hI.step
      rw [hmn, hm, Nat.add_sub_cancel] at hst
      have cp := rdnum_tot b m s' wr hR (by omega)
      have hk := numS_le m s'
      obtain ⟨k, hke⟩ : ∃ k, k = (numS m s').1 := ⟨_, rfl⟩
      obtain ⟨s2, hs2⟩ : ∃ s2, s2 = (numS m s').2 := ⟨_, rfl⟩
      rw [← hke, ← hs2] at cp
      rw [← hke, ← hs2] at hst
      rw [← hke] at hk
      have e1 : ((n : Int) == 0) = false := by simp only [beq_eq_false_iff_ne, ne_eq]; omega
      have e2 : (n : Int) - 1 = (m : Int) := by omega
      have e3 : IntKind.u64.wrap (m : Int) = (m : Int) := by rw [IntKind.wrap_u64]; omega
      have e4 : IntKind.u64.wrap ((j : Int) + 1) = ((j + 1 : Nat) : Int) := by rw [IntKind.wrap_u64]; omega
      have x1 : (0 : Int) ≤ (k : Int) := by omega
      have x2 : (k : Int) < (n : Int) := by omega
      have x3 : k < n := by omega
      have HST := hide hst
      have E0 := hide e0
      clear hst hke hR hm hI hi' hs2 e0 hme
      go_wp2_with fail
      refine cp.mono ?_
      rintro e w3 ⟨rfl, h3, ht3⟩
      have hO3 := hO.turnLow ht3 hlt
      have hT3 := hT.trans ht3 (Mov.refl _ _)
      have hs3 := hT3.size
      obtain ⟨ad, hl2, rfl, hbl, hc⟩ := (HM.out w3 hT3).at_ prOk x3
      obtain ⟨p, hp⟩ : ∃ p, p = mem[k] := ⟨_, rfl⟩
      have hpd : mem.getD k default = p := by rw [List.getD_eq_getElem?_getD, List.getElem?_eq_getElem hl2, hp]; rfl
      rw [← hp] at hc
      obtain ⟨c0, c1⟩ := pr_at hc
      have HP := hide hpd
      clear cp hO hT hc hbl ht3 hp hpd
      go_wp2_with (at_builtin; refine wp_append_e _ rfl (.tmp 15) (.tmp 25) 30 rfl 25 i0 _ 8 Tryd.underlying30 hi hz0 ‹_› hz2 rfl prOk w.heap.size j _ q rfl (hO3.alloc _) (w3.heap.size + 1) _ 1 1 [p] rfl (es_pr w3 p _) (by unfold maxLen; omega) (by omega) 0 _ (Below.refl _ _) (Nat.zero_le _) (by simp; omega) ?_; intro A2 c2 w4 r1 r2 r3 r4; refine Hid.out ?_)
      have r5 : (w3.alloc (.cells #[.int .u16 (p.i : Int), .int .u32 (p.k : Int)] 25)).grownBy w4 (Value.slice A' j c').ownBlock := r4
      have r6 : OwnP w4 w.heap.size (.slice A2 (j + 1) c2) (j + 1) (q ++ [p]) := r1
      have hT4 := (hT3.alloc (.cells #[.int .u16 (p.i : Int), .int .u32 (p.k : Int)] 25)).grownNew r5 (fun g hg => (hO3.lt g hg).1)
      have hR4 := (h3.alloc (.cells #[.int .u16 (p.i : Int), .int .u32 (p.k : Int)] 25)).grown r5 (fun g hg => by have := (hO3.lt g hg).1; omega)
      have hI4 : SomInv mem N s1 (N - (j + 1)) (q ++ [p]) s2 := by have := HST.out; rw [HP.out] at this; rw [E0.out]; exact this
      have HR := hide (And.intro r6 (And.intro hR4 (And.intro hT4 hI4)))
      refine Lib.hid ?_
      clear r1 r2 r3 r4 r5 r6 hT4 hR4 hO3 hT3 h3 HST HP c0 c1 hI4
      go_wp2_with fail
      go_roundw
      case rel => exact ⟨j + 1, A2, c2, q ++ [p], s2, by omega, by go_num, rfl, HR.out⟩
      case measure => simp [intOf]; omega
    · have hjj : j = N := by omega
      subst hjj
      rw [Nat.sub_self] at hI
      obtain ⟨d1, d2⟩ := hI.done
      have hlq := OwnE.len prOk hO
      have hw : SomT w b RES (.returned (.slice A' j c')) wr := by
        by_cases hN0 : j = 0
        · subst hN0
          have hq : q = [] := List.eq_nil_of_length_eq_zero hlq
          subst hq
          have e5 : s' = s1 := by rw [← d1]; rfl
          rw [e5] at hR
          exact ⟨A', c', [], rfl, hO, Nat.zero_le _, by rw [HS.out, if_pos rfl]; exact hR, hT, fun _ => by rw [HS.out, if_pos rfl]⟩
        · have e5 : RES = somR mem j s1 := by rw [HS.out, if_neg hN0, if_neg hme]
          subst hlq
          exact ⟨A', c', q, rfl, hO, hle, by rw [e5, d1]; exact hR, hT, fun e => by rw [e5] at e ⊢; rw [d1] at e; exact d2 e⟩
      have HW := hide hw
      clear hw hO hR hT hI d1 d2 hlq
      go_wp2
      go_ret
      exact HW.out
end Go.Proofs.YtjmkecaljkcoiaaDoor
