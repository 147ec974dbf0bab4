import Derived.Deep.RegionHeld3
import Derived.Deep.AppendLies
import Derived.Deep.RegionLaw
import Derived.Test.YtjmkecaljkcoiaaGreatDoorQRdU
namespace Go.Proofs.YtjmkecaljkcoiaaGreatDoor
open Go.RowKit Go.Maps
set_option linter.unusedVariables false
set_option linter.unusedSimpArgs false
theorem someS_stop {mem : List Pr} {s : RS} (h : s.t ≠ 0) : someS mem s = ([], s) := by unfold someS; rw [numS_stop h]; simp
def LvInv (mem : List Pr) (N : Nat) (s0 : RS) (n : Nat) (acc : List (List Pr)) (s : RS) : Prop :=
  (s.t = 0 ∧ lvsR mem N s0 = (acc ++ (lvsR mem n s).1, (lvsR mem n s).2)) ∨ (s.t ≠ 0 ∧ (lvsR mem N s0).2 = s)
theorem LvInv.start (mem : List Pr) (N : Nat) (s0 : RS) (h : s0.t ≠ 0 → N = 0) : LvInv mem N s0 N [] s0 := by
  by_cases h0 : s0.t = 0
  · exact .inl ⟨h0, rfl⟩
  · obtain rfl := h h0
    exact .inr ⟨h0, rfl⟩
theorem LvInv.step {mem : List Pr} {N n : Nat} {s0 s : RS} {acc : List (List Pr)} (h : LvInv mem N s0 (n + 1) acc s) (p : List Pr) (hp : (someS mem s).2.t = 0 → p = (someS mem s).1) : LvInv mem N s0 n (acc ++ [p]) (someS mem s).2 := by
  rcases h with ⟨h0, h1⟩ | ⟨h0, h1⟩
  · rw [lvsR] at h1
    by_cases hr : (someS mem s).2.t = 0
    · rw [if_pos hr] at h1
      exact .inl ⟨hr, by rw [h1, hp hr]; simp⟩
    · rw [if_neg hr] at h1
      exact .inr ⟨hr, by rw [h1]⟩
  · rw [someS_stop h0]
    exact .inr ⟨h0, h1⟩
theorem LvInv.done {mem : List Pr} {N : Nat} {s0 s : RS} {acc : List (List Pr)} (h : LvInv mem N s0 0 acc s) : (lvsR mem N s0).2 = s ∧ (s.t = 0 → acc = (lvsR mem N s0).1) := by
  rcases h with ⟨h0, h1⟩ | ⟨h0, h1⟩
  · rw [h1]
    simp [lvsR]
  · exact ⟨h1, fun e => absurd e h0⟩
structure GetT (w W : World) (b : Nat) (s : RS) (y : Vw) : Prop where
  v : VAt W (w.heap.size + 1) y
  z : VAt W w.heap.size zeroX
  own : VwOwn W (w.heap.size + 1 + 1) y
  rd : RdAt W b s.l s.t
  turn : Turn w W b none
  sz : w.heap.size + 1 + 1 ≤ W.heap.size
section
variable {w W W' : World} {b : Nat} {s s' : RS} {y : Vw}
theorem GetT.read (h : GetT w W b s y) (hb : b < w.heap.size) (ht : Turn W W' b none) (hr : RdAt W' b s'.l s'.t) : GetT w W' b s' y :=
  ⟨h.v.turn ht (by omega) (by simp), h.z.turn ht (by omega) (by simp), h.own.turnLow ht (by omega), hr, h.turn.trans ht (Mov.refl _ _), Nat.le_trans h.sz ht.size⟩
theorem GetT.start (hb : b < w.heap.size) (h : RdAt w b s.l s.t) : GetT w ((w.alloc (.cells #[.int .u64 0, .slice none 0 0, .slice none 0 0, .slice none 0 0] 26)).alloc (.cells #[.int .u64 0, .slice none 0 0, .slice none 0 0, .slice none 0 0] 26)) b s zeroX := by
  have v1 := VAt.mk_ (w.alloc (.cells #[.int .u64 0, .slice none 0 0, .slice none 0 0, .slice none 0 0] 26)) zeroX
  rw [World.size_alloc] at v1
  exact ⟨v1, (VAt.mk_ w zeroX).alloc _, zeroX_own _ _, (h.alloc _).alloc _, ((Turn.refl w b none).alloc _).alloc _, by simp⟩
theorem GetT.put0 (h : GetT w W b s y) (hb : b < w.heap.size) (id : Nat) : GetT w (W.setCell ⟨w.heap.size + 1, 0, none⟩ (.int .u64 id)) b s ⟨id, y.A, y.m, y.c, y.l, y.B, y.d, y.e, y.q, y.C, y.f, y.g, y.r⟩ :=
  ⟨heap_setCell_same W (w.heap.size + 1) 0 _ _ _ h.v, h.z.far _ (by simp), ⟨(h.own.setFar _ (by simp)).ms, (h.own.setFar _ (by simp)).lv, (h.own.setFar _ (by simp)).each, (h.own.setFar _ (by simp)).dr⟩, h.rd.other (by simp; omega) _, h.turn.setNew (by simp) _, by simp; exact h.sz⟩
theorem GetT.put1 (h : GetT w W b s y) (hb : b < w.heap.size) {A : Option Addr} {m c : Nat} {l : List Pr} (ho : OwnE 44 prC 2 W (w.heap.size + 1 + 1) (.slice A m c) m l) : GetT w (W.setCell ⟨w.heap.size + 1, 1, none⟩ (.slice A m c)) b s ⟨y.id, A, m, c, l, y.B, y.d, y.e, y.q, y.C, y.f, y.g, y.r⟩ :=
  ⟨h.v.set1 A m c l, h.z.far _ (by simp), ⟨OwnE.set_far ho _ (by simp), (h.own.setFar _ (by simp)).lv, (h.own.setFar _ (by simp)).each, (h.own.setFar _ (by simp)).dr⟩, h.rd.other (by simp; omega) _, h.turn.setNew (by simp) _, by simp; exact h.sz⟩
theorem GetT.put3 (h : GetT w W b s y) (hb : b < w.heap.size) {A : Option Addr} {m c : Nat} {l : List Pr} (ho : OwnE 44 prC 2 W (w.heap.size + 1 + 1) (.slice A m c) m l) : GetT w (W.setCell ⟨w.heap.size + 1, 3, none⟩ (.slice A m c)) b s ⟨y.id, y.A, y.m, y.c, y.l, y.B, y.d, y.e, y.q, A, m, c, l⟩ :=
  ⟨h.v.set3 A m c l, h.z.far _ (by simp), ⟨(h.own.setFar _ (by simp)).ms, (h.own.setFar _ (by simp)).lv, (h.own.setFar _ (by simp)).each, OwnE.set_far ho _ (by simp)⟩, h.rd.other (by simp; omega) _, h.turn.setNew (by simp) _, by simp; exact h.sz⟩
theorem GetT.leaf (h : GetT w W b s y) (hb : b < w.heap.size) {A : Option Addr} {m c : Nat} {l : List Pr} (ho : OwnE 44 prC 2 W (w.heap.size + 1 + 1) (.slice A m c) m l) {T : TypeId} {W4 : World} {B2 : Option Addr} {n2 e2 : Nat}
    (hg : (W.alloc (.cells #[.slice A m c] T)).grownBy W4 (Value.slice y.B y.d y.e).ownBlock) (hn : OwnE 23 lfC 1 W4 (w.heap.size + 1 + 1) (.slice B2 n2 e2) n2 (y.q ++ [⟨A, m, c, l⟩])) :
    GetT w (W4.setCell ⟨w.heap.size + 1, 2, none⟩ (.slice B2 n2 e2)) b s ⟨y.id, y.A, y.m, y.c, y.l, B2, n2, e2, y.q ++ [⟨A, m, c, l⟩], y.C, y.f, y.g, y.r⟩ := by
  have hl : Below W.heap.size W (W.alloc (.cells #[.slice A m c] T)) := (Below.refl _ _).alloc (Nat.le_refl _) _
  have o1 := h.own.later hl
  have hne : ∀ g, (Value.slice y.B y.d y.e).ownBlock = some g → w.heap.size + 1 + 1 ≤ g := fun g hg => (OwnE.lt h.own.lv g hg).1
  have k1 := OwnE.kept_by o1.lv o1.ms (by decide) hg
  have k2 := OwnE.kept_by o1.lv o1.dr (by decide) hg
  have k3 := OwnE.kept_by o1.lv (OwnE.later ho hl) (by decide) hg
  have hs := h.sz
  have hs1 := hl.size
  have v4 : VAt W4 (w.heap.size + 1) y := (hg.block _ (by omega) (fun e => by have := hne _ e.symm; omega)).trans (h.v.later hl)
  have z4 : VAt W4 w.heap.size zeroX := (hg.block _ (by omega) (fun e => by have := hne _ e.symm; omega)).trans (h.z.later hl)
  refine ⟨v4.set2 B2 n2 e2 _, z4.far _ (by simp), ⟨OwnE.set_far k1 _ (by simp), OwnE.set_far hn _ (by simp), fun u hu => ?_, OwnE.set_far k2 _ (by simp)⟩, ((h.rd.alloc _).grown hg (fun g e => by have := hne g e; omega)).other (by simp; omega) _, ((h.turn.alloc _).grownNew hg (fun g e => by have := hne g e; omega)).setNew (by simp) _, ?_⟩
  · dsimp only at hu
    rw [List.mem_append, List.mem_singleton] at hu
    rcases hu with hu | rfl
    · exact OwnE.set_far (OwnE.kept_by o1.lv (o1.each u hu) (by decide) hg) _ (by simp)
    · exact OwnE.set_far k3 _ (by simp)
  · have := hg.size
    simp
    omega
end
def VGetT (w : World) (b : Nat) (r : Vi × RS) (e : Ending) (w' : World) : Prop := ∃ y : Vw, e = .returned (.agg #[.int .u64 y.id, .slice y.A y.m y.c, .slice y.B y.d y.e, .slice y.C y.f y.g]) ∧ y.v = r.1 ∧ VwOwn w' w.heap.size y ∧ VSmall y ∧ y.id < 18446744073709551616 ∧ RdAt w' b r.2.l r.2.t ∧ Turn w w' b none
def LvT (w W : World) (b id : Nat) (mem : List Pr) (N : Nat) (s0 : RS) (j : Nat) : Prop :=
  ∃ A c B e q s, GetT w W b s ⟨id, A, mem.length, c, mem, B, j, e, q, none, 0, 0, []⟩ ∧ LvInv mem N s0 (N - j) (q.map Lf.l) s ∧ ∀ y ∈ q, y.m ≤ 40
set_option maxRecDepth 100000 in
set_option maxHeartbeats 4000000 in
theorem vget_tot (b : Nat) (s : RS) (w : World) (h : RdAt w b s.l s.t) :
    Calls Tryz.prog 108 #[.pointer (some ⟨b, 0, none⟩)] w (VGetT w b (viewS s)) := by
  obtain ⟨i0, hi, hz0, hz1, hz2⟩ := info_partsV info_leaf8
  have hb := h.lt
  have g0 := GetT.start hb h
  have c1 : Calls Tryz.prog 103 #[.pointer (some ⟨b, 0, none⟩), .int .u64 4611686018427387904] _ _ := rdnum_tot b 4611686018427387904 s _ g0.rd (by decide)
  have hid := numS_le 4611686018427387904 s
  have hn := pidsS_le 24 (numS 4611686018427387904 s).2
  have hN := numS_le 24 (pidsS 24 (numS 4611686018427387904 s).2).2
  have hNz := @numS_zero 24 (pidsS 24 (numS 4611686018427387904 s).2).2
  have hP : partsS s = (⟨(numS 4611686018427387904 s).1, (pidsS 24 (numS 4611686018427387904 s).2).1,
    (lvsR (pidsS 24 (numS 4611686018427387904 s).2).1 (numS 24 (pidsS 24 (numS 4611686018427387904 s).2).2).1 (numS 24 (pidsS 24 (numS 4611686018427387904 s).2).2).2).1,
    (someS (pidsS 24 (numS 4611686018427387904 s).2).1 (lvsR (pidsS 24 (numS 4611686018427387904 s).2).1 (numS 24 (pidsS 24 (numS 4611686018427387904 s).2).2).1 (numS 24 (pidsS 24 (numS 4611686018427387904 s).2).2).2).2).1⟩,
   (someS (pidsS 24 (numS 4611686018427387904 s).2).1 (lvsR (pidsS 24 (numS 4611686018427387904 s).2).1 (numS 24 (pidsS 24 (numS 4611686018427387904 s).2).2).1 (numS 24 (pidsS 24 (numS 4611686018427387904 s).2).2).2).2).2) := rfl
  have hY := @viewS_yes s
  have hF := @viewS_form s
  have hX := @viewS_stop s
  generalize viewS s = RES at *
  generalize partsS s = PT at *
  obtain ⟨id, hide1⟩ : ∃ x, x = (numS 4611686018427387904 s).1 := ⟨_, rfl⟩
  obtain ⟨s2, hs2⟩ : ∃ x, x = (numS 4611686018427387904 s).2 := ⟨_, rfl⟩
  rw [← hide1, ← hs2] at c1
  rw [← hide1, ← hs2] at hP
  rw [← hide1] at hid
  rw [← hs2] at hn hN hNz
  have c2 := fun W (hr : RdAt W b s2.l s2.t) => rdpids_tot b 24 s2 W hr (by decide)
  have c3 := fun W (hr : RdAt W b (pidsS 24 s2).2.l (pidsS 24 s2).2.t) => rdnum_tot b 24 (pidsS 24 s2).2 W hr (by decide)
  unfold PidsT at c2
  clear hide1 hs2
  generalize pidsS 24 s2 = r3 at *
  obtain ⟨mem, s3⟩ := r3
  (try dsimp only at hn)
  (try dsimp only at hN)
  (try dsimp only at hNz)
  (try dsimp only at hP)
  (try dsimp only at c2)
  (try dsimp only at c3)
  generalize numS 24 s3 = r4 at *
  obtain ⟨N, s4⟩ := r4
  (try dsimp only at hN)
  (try dsimp only at hNz)
  (try dsimp only at hP)
  (try dsimp only at c3)
  have I0 := LvInv.start mem N s4 hNz
  have HP := hide hP
  have HRES := hide (And.intro hY (And.intro hF hX))
  clear hP hY hF hX hNz h
  go_enter Tryz.func108, Tryz.ntmps108
  go_wp2_with fail
  generalize ((w.alloc (.cells #[.int .u64 0, .slice none 0 0, .slice none 0 0, .slice none 0 0] 26)).alloc (.cells #[.int .u64 0, .slice none 0 0, .slice none 0 0, .slice none 0 0] 26)) = w1 at *
  refine c1.mono ?_
  rintro e w2 ⟨rfl, h2, ht2⟩
  have g2 := g0.read hb ht2 h2
  clear g0 c1 h2 ht2
  have g3 := g2.put0 hb id
  obtain ⟨k0, k1, k2, k3⟩ := g2.v.cells
  simp only [zeroX] at k0 k1 k2 k3 g3
  have y0 := g2.v.fz 0
  have c2' : Calls Tryz.prog 170 #[.pointer (some ⟨b, 0, none⟩), .int .i64 24] _ _ := c2 _ g3.rd
  clear c2
  go_wp2_with fail
  clear k0 k1 k2 k3 y0 g2
  generalize (w2.setCell ⟨w.heap.size + 1, 0, none⟩ (.int .u64 id)) = w3 at *
  refine c2'.mono ?_
  rintro e w4 ⟨A, c, rfl, ho, h4, ht4⟩
  (try dsimp only at ho)
  (try dsimp only at h4)
  have g4 := g3.read hb ht4 h4
  have g5 := g4.put1 hb (OwnE.mono ho g3.sz)
  obtain ⟨k0, k1, k2, k3⟩ := g4.v.cells
  have y0 := g4.v.fz 1
  dsimp only at k0 k1 k2 k3 g5
  have c3' : Calls Tryz.prog 103 #[.pointer (some ⟨b, 0, none⟩), .int .u64 24] _ _ := c3 _ g5.rd
  clear g3 g4 h4 ht4 ho c2' c3
  go_wp2_with fail
  clear k0 k1 k2 k3 y0
  generalize (w4.setCell ⟨w.heap.size + 1, 1, none⟩ (.slice A mem.length c)) = w5 at *
  refine c3'.mono ?_
  rintro e w6 ⟨rfl, h6, ht6⟩
  have g6 := g5.read hb ht6 h6
  have L0 : LvT w w6 b id mem N s4 0 := ⟨A, c, none, 0, [], s4, g6, by simpa using I0, fun y hy => by simp at hy⟩
  clear g5 c3' h6 ht6 g6 I0
  go_wp2
  go_loopw [12] (fun i wr => ∃ j : Nat, j ≤ N ∧ i = .int .u64 j ∧ LvT w wr b id mem N s4 j) (fun i _ => N - (intOf i).toNat)
  case atStart => exact ⟨0, Nat.zero_le _, rfl, L0⟩
  case round =>
    clear L0
    obtain ⟨j, hj, rfl, A1, c1, B, e, q, s', gs, hq, hq4⟩ := hrel
    by_cases hlt : j < N
    · have hlq := OwnE.len lfOk gs.own.lv
      obtain ⟨i, hi'⟩ : ∃ i, N - j = i + 1 := ⟨N - j - 1, by omega⟩
      have e0 : N - (j + 1) = i := by omega
      rw [hi', ← e0] at hq
      have hst : ∀ x : Lf, ((someS mem s').2.t = 0 → x.l = (someS mem s').1) → LvInv mem N s4 (N - (j + 1)) ((q ++ [x]).map Lf.l) (someS mem s').2 := fun x hx => by
        rw [List.map_append]
        exact hq.step x.l hx
      have e4 : IntKind.u64.wrap ((j : Int) + 1) = ((j + 1 : Nat) : Int) := by rw [IntKind.wrap_u64]; omega
      have cg := getsome_tot b mem.length c1 A1 mem s' wr.drew (rdAt_drew gs.rd) (fun W hW => OwnE.es prOk (OwnE.turnLow gs.own.ms (Turn.ahead ((Below.refl _ _).drew) hW) (by omega))) (by omega)
      unfold SomT at cg
      generalize someS mem s' = r5 at *
      obtain ⟨k0, k1, k2, k3⟩ := gs.v.cells
      dsimp only at k0 k1 k2 k3
      have HS := hide (And.intro hst hq4)
      have G1 := hide (fun W (ht : Turn wr W b none) (h : RdAt W b r5.2.l r5.2.t) => gs.read hb ht h)
      have HG := hide gs
      clear hst hq hq4 gs hi' e0
      go_wp2_with fail
      have fz2 := HG.out.v.fz 2
      have K1 : wr.drew.cell? ⟨w.heap.size + 1, 1, none⟩ = some (.slice A1 mem.length c1) := k1
      have K2 : wr.drew.cell? ⟨w.heap.size + 1, 2, none⟩ = some (.slice B j e) := k2
      go_region_law
        (first | (go_simp; go_at_call 171; (with_reducible refine cg.mono ?_); rintro e9 w7 ⟨A7, c7, lf, rfl, ho7, hp7, hr7, ht7', hpr7⟩; have ht7 : Turn wr w7 b none := Turn.ahead ((Below.refl _ _).drew) ht7'; have g7 := G1.out w7 ht7 hr7; have f1 : w7.cell? ⟨w.heap.size + 1, 1, none⟩ = some (.slice A1 mem.length c1) := g7.v.cells.2.1; have f2 : w7.cell? ⟨w.heap.size + 1, 2, none⟩ = some (.slice B j e) := g7.v.cells.2.2.1; have hl7 : Below w7.heap.size w7 (w7.alloc (.cells #[.slice A7 lf.length c7] 23)) := (Below.refl _ _).alloc (Nat.le_refl _) _; have f3 := cellL f2 hl7; have f4 := cellL f1 hl7; have ho7' : OwnE 44 prC 2 w7 (w.heap.size + 1 + 1) (.slice A7 lf.length c7) lf.length lf := OwnE.mono ho7 HG.out.sz; have hes7 : Es lfC (w7.alloc (.cells #[.slice A7 lf.length c7] 23)) (w7.heap.size + 1) (some ⟨w7.heap.size, 0, none⟩) 1 [(⟨A7, lf.length, c7, lf⟩ : Lf)] := es_block (heap_alloc_new w7 _) (by simp [ec, lfC]) rfl) | (refine step_append_e _ rfl (.tmp 15) (.tmp 20) 24 rfl 23 i0 _ 24 Tryz.underlying24 hi hz0 hz1 hz2 rfl lfOk (w.heap.size + 1 + 1) j (.slice B j e) q (by simp [Act.eval, Act.put]) (OwnE.later g7.own.lv hl7) (w7.heap.size + 1) (some ⟨w7.heap.size, 0, none⟩) 1 1 [(⟨A7, lf.length, c7, lf⟩ : Lf)] (by simp [Act.eval, Act.put]) hes7 (by unfold maxLen; omega) (by omega) (Nat.le_trans g7.sz hl7.size) ?_; intro B8 e8 w8 ho8 hs8 hg8; have hfin := g7.leaf hb ho7' hg8 ho8; have f6 : w8.cell? ⟨w.heap.size + 1, 1, none⟩ = some (.slice A1 mem.length c1) := (hg8.cell_far ⟨w.heap.size + 1, 1, none⟩ (Nat.le_trans g7.sz hl7.size) (fun e9 => Nat.lt_irrefl _ (OwnE.lt g7.own.lv _ e9.symm).1)).trans f4; have f7 : w8.cell? ⟨w.heap.size + 1, 2, none⟩ = some (.slice B j e) := (hg8.cell_far ⟨w.heap.size + 1, 2, none⟩ (Nat.le_trans g7.sz hl7.size) (fun e9 => Nat.lt_irrefl _ (OwnE.lt g7.own.lv _ e9.symm).1)).trans f3; have f9 : w8.frozen? ⟨w.heap.size + 1, 2, none⟩ = false := (hg8.frozen_far ⟨w.heap.size + 1, 2, none⟩ (Nat.le_trans g7.sz hl7.size) (fun e9 => Nat.lt_irrefl _ (OwnE.lt g7.own.lv _ e9.symm).1)).trans ((g7.v.later hl7).fz 2)))
      all_goals
        have hfin := g7.leaf hb ho7' hg8 ho8
        have L1 : LvT w (w8.setCell ⟨w.heap.size + 1, 2, none⟩ (.slice B8 (j + 1) e8)) b id mem N s4 (j + 1) := ⟨A1, c1, B8, e8, _, r5.2, hfin, HS.out.1 _ hpr7, fun y hy => by
          rw [List.mem_append, List.mem_singleton] at hy
          exact hy.elim (HS.out.2 y) (fun e9 => by rw [e9]; exact Nat.le_trans hp7 (by decide))⟩
        have HL := hide L1
        clear L1 hfin ho7' ho8 hg8 hs8 g7 hes7 hl7 ho7 hr7 ht7 ht7' f1 f2 f3 f4 f6 f7 f9 K1 K2 fz2 HG G1 HS k0 k1 k2 k3 cg hpr7 hp7
        go_wp2_with fail
        go_roundw
        case rel => exact ⟨j + 1, by omega, by go_num, HL.out⟩
        case measure => simp [intOf]; omega
    · have e8 : N - j = 0 := by omega
      rw [e8] at hq
      obtain ⟨d1, d2⟩ := hq.done
      have cg := getsome_tot b mem.length c1 A1 mem s' wr gs.rd (fun W hW => OwnE.es prOk (OwnE.turnLow gs.own.ms hW (by omega))) (by omega)
      unfold SomT at cg
      have hP2 : PT.2 = (someS mem s').2 := by rw [HP.out, d1]
      have hP1 : (someS mem s').2.t = 0 → ∀ l : List Pr, l = (someS mem s').1 → (⟨id, mem, q.map Lf.l, l⟩ : Vi) = PT.1 := fun e l hl => by
        have e1 : s'.t = 0 := by
          by_cases e2 : s'.t = 0
          · exact e2
          · rw [someS_stop e2] at e; exact absurd e e2
        rw [HP.out, d2 e1, hl, d1]
      generalize someS mem s' = r5 at *
      obtain ⟨k0, k1, k2, k3⟩ := gs.v.cells
      dsimp only at k0 k1 k2 k3
      have HQ := hide (And.intro hP1 (And.intro hP2 hq4))
      clear e8 hq hq4 d1 d2 hP1 hP2 HP
      go_wp2_with fail
      refine cg.mono ?_
      rintro e9 w7 ⟨A7, c7, l7, rfl, ho7, hl7, hr7, ht7, hpr7⟩
      have g7 := gs.read hb ht7 hr7
      have g8 := g7.put3 hb (OwnE.mono ho7 gs.sz)
      clear k0 k1 k2 k3
      obtain ⟨k0, k1, k2, k3⟩ := g7.v.cells
      have y3 := g7.v.fz 3
      dsimp only at k0 k1 k2 k3 g8
      have hid' : id < 18446744073709551616 := by omega
      have hys : VSmall ⟨id, A1, mem.length, c1, mem, B, j, e, q, A7, l7.length, c7, l7⟩ := ⟨by show mem.length ≤ 40; omega, by show j ≤ 40; omega, by show l7.length ≤ 40; omega, HQ.out.2.2⟩
      obtain ⟨tc, htc⟩ := bool_of (MayV (Vw.v ⟨id, A1, mem.length, c1, mem, B, j, e, q, A7, l7.length, c7, l7⟩))
      have ck := check_any ⟨id, A1, mem.length, c1, mem, B, j, e, q, A7, l7.length, c7, l7⟩ _ _ tc (g8.own.in_ hid') hys (Nat.le_refl _) htc
      have q0 := g8.v.cells
      obtain ⟨q0, q1, q2, q3⟩ := q0
      dsimp only at q0 q1 q2 q3
      have HE := hide (And.intro hpr7 (And.intro htc hys))
      clear gs cg ho7 hr7 ht7 g7 hpr7 htc hys
      generalize hw8 : (w7.setCell ⟨w.heap.size + 1, 3, none⟩ (.slice A7 l7.length c7)) = w8 at *
      by_cases hr0 : r5.2.t = 0
      · have hvi := HQ.out.1 hr0 l7 (HE.out.1 hr0)
        cases tc
        · -- read to its end, but may not be
          have hres : RES = (noV, ⟨r5.2.l, 5⟩) := by
            have := HRES.out.2.1 (by rw [HQ.out.2.1]; exact hr0) (by rw [← hvi]; exact fun h => by have := HE.out.2.1.2 h; cases this)
            rw [this, HQ.out.2.1]
          have HRS := hide hres
          clear hres hvi
          rw [show ckI false = 1 from rfl] at ck
          go_wp2_with fail
          (try rw [hw8])
          refine ck.mono ?_
          rintro e9 w9 ⟨rfl, hb9⟩
          have g9 := g8.read hb (Turn.of_below hb9 b none) (g8.rd.later hb9)
          have hrd := g9.rd
          rw [hr0] at hrd
          have cs : Calls Tryz.prog 161 #[.pointer (some ⟨b, 0, none⟩), .int .i64 5] w9 (ReadsP w9 b (.tuple #[]) r5.2.l 5) := stop_first b r5.2.l 5 w9 hrd
          clear g8 ck q0 q1 q2 q3 k0 k1 k2 k3 y3 hb9 hrd
          go_wp2_with fail
          refine cs.mono ?_
          rintro e9 w10 ⟨rfl, h10, ht10⟩
          have g10 := g9.read (s' := ⟨r5.2.l, 5⟩) hb ht10 h10
          have ce : Calls Tryz.prog 110 #[.pointer (some ⟨b, 0, none⟩)] w10 (fun e w' => e = .returned (.int .i64 5) ∧ w10 = w') := err_any b r5.2.l 5 w10 h10
          clear cs h10 ht10 g9
          obtain ⟨j0, j1, j2, j3⟩ := g10.z.cells
          simp only [zeroX] at j0 j1 j2 j3
          have y2 := g10.z.lt
          have x0 := g10.z.fz 0
          have x1 := g10.z.fz 1
          have x2 := g10.z.fz 2
          have x3 := g10.z.fz 3
          have z9 := g10.z.put zeroX
          have o9 : VwOwn (put4 w10 w.heap.size zeroX) w.heap.size zeroX :=
            VwOwn.mono (((((zeroX_own w10 (w.heap.size + 1 + 1)).setFar (a := ⟨w.heap.size, 0, none⟩) _ (by show w.heap.size < w.heap.size + 1 + 1; omega)).setFar (a := ⟨w.heap.size, 1, none⟩) _ (by show w.heap.size < w.heap.size + 1 + 1; omega)).setFar (a := ⟨w.heap.size, 2, none⟩) _ (by show w.heap.size < w.heap.size + 1 + 1; omega)).setFar (a := ⟨w.heap.size, 3, none⟩) _ (by show w.heap.size < w.heap.size + 1 + 1; omega)) (by omega)
          have r9 : RdAt (put4 w10 w.heap.size zeroX) b (⟨r5.2.l, 5⟩ : RS).l (⟨r5.2.l, 5⟩ : RS).t := (((g10.rd.other (p := ⟨w.heap.size, 0, none⟩) hb _).other (p := ⟨w.heap.size, 1, none⟩) hb _).other (p := ⟨w.heap.size, 2, none⟩) hb _).other (p := ⟨w.heap.size, 3, none⟩) hb _
          have t9 : Turn w (put4 w10 w.heap.size zeroX) b none := (((g10.turn.setNew (p := ⟨w.heap.size, 0, none⟩) (Nat.le_refl _) _).setNew (p := ⟨w.heap.size, 1, none⟩) (Nat.le_refl _) _).setNew (p := ⟨w.heap.size, 2, none⟩) (Nat.le_refl _) _).setNew (p := ⟨w.heap.size, 3, none⟩) (Nat.le_refl _) _
          have HF := hide (And.intro z9 (And.intro o9 (And.intro r9 t9)))
          clear z9 o9 r9 t9
          clear g10
          go_wp2_with fail
          refine ce.mono ?_
          rintro e9 w11 ⟨rfl, rfl⟩
          clear ce
          go_wp2
          obtain ⟨z9, o9, r9, t9⟩ := HF.out
          obtain ⟨t0, t1, t2, t3⟩ := z9.cells
          clear z9 HF j0 j1 j2 j3 y2 x0 x1 x2 x3
          simp only [put4, zeroX] at t0 t1 t2 t3 o9 r9 t9
          refine bodyPost_ret (v := .agg #[.int .u64 0, .slice none 0 0, .slice none 0 0, .slice none 0 0]) (by first | (simp [results, Tryz.results108, go_sem, t0, t1, t2, t3]; done) | (simp at t0 t1 t2 t3; simp [results, Tryz.results108, go_sem, t0, t1, t2, t3])) rfl ⟨zeroX, rfl, by rw [HRS.out]; rfl, o9, ⟨by decide, by decide, by decide, fun y hy => by simp [zeroX] at hy⟩, by decide, by rw [HRS.out]; exact r9, t9⟩
        · have hres : RES = (PT.1, PT.2) := HRES.out.1 (by rw [HQ.out.2.1]; exact hr0) (by rw [← hvi]; exact HE.out.2.1.1 rfl)
          rw [← hvi, HQ.out.2.1] at hres
          have HRS := hide hres
          clear hres hvi
          rw [show ckI true = 0 from rfl] at ck
          go_wp2_with fail
          (try rw [hw8])
          refine ck.mono ?_
          rintro e9 w9 ⟨rfl, hb9⟩
          have g9 := g8.read hb (Turn.of_below hb9 b none) (g8.rd.later hb9)
          have hrd := g9.rd
          rw [hr0] at hrd
          have ce : Calls Tryz.prog 110 #[.pointer (some ⟨b, 0, none⟩)] w9 (fun e w' => e = .returned (.int .i64 0) ∧ w9 = w') := err_any b r5.2.l 0 w9 hrd
          clear g8 ck q0 q1 q2 q3 k0 k1 k2 k3 y3 hb9 hrd
          obtain ⟨k0, k1, k2, k3⟩ := g9.v.cells
          obtain ⟨j0, j1, j2, j3⟩ := g9.z.cells
          dsimp only at k0 k1 k2 k3
          simp only [zeroX] at j0 j1 j2 j3
          have y1 := g9.v.lt
          have y2 := g9.z.lt
          have x0 := g9.z.fz 0
          have x1 := g9.z.fz 1
          have x2 := g9.z.fz 2
          have x3 := g9.z.fz 3
          have z9 := g9.z.put ⟨id, A1, mem.length, c1, mem, B, j, e, q, A7, l7.length, c7, l7⟩
          have o9 : VwOwn (put4 w9 w.heap.size ⟨id, A1, mem.length, c1, mem, B, j, e, q, A7, l7.length, c7, l7⟩) w.heap.size ⟨id, A1, mem.length, c1, mem, B, j, e, q, A7, l7.length, c7, l7⟩ :=
            VwOwn.mono ((((g9.own.setFar (a := ⟨w.heap.size, 0, none⟩) _ (by show w.heap.size < w.heap.size + 1 + 1; omega)).setFar (a := ⟨w.heap.size, 1, none⟩) _ (by show w.heap.size < w.heap.size + 1 + 1; omega)).setFar (a := ⟨w.heap.size, 2, none⟩) _ (by show w.heap.size < w.heap.size + 1 + 1; omega)).setFar (a := ⟨w.heap.size, 3, none⟩) _ (by show w.heap.size < w.heap.size + 1 + 1; omega)) (by omega)
          have r9 : RdAt (put4 w9 w.heap.size ⟨id, A1, mem.length, c1, mem, B, j, e, q, A7, l7.length, c7, l7⟩) b r5.2.l r5.2.t := (((g9.rd.other (p := ⟨w.heap.size, 0, none⟩) hb _).other (p := ⟨w.heap.size, 1, none⟩) hb _).other (p := ⟨w.heap.size, 2, none⟩) hb _).other (p := ⟨w.heap.size, 3, none⟩) hb _
          have t9 : Turn w (put4 w9 w.heap.size ⟨id, A1, mem.length, c1, mem, B, j, e, q, A7, l7.length, c7, l7⟩) b none := (((g9.turn.setNew (p := ⟨w.heap.size, 0, none⟩) (Nat.le_refl _) _).setNew (p := ⟨w.heap.size, 1, none⟩) (Nat.le_refl _) _).setNew (p := ⟨w.heap.size, 2, none⟩) (Nat.le_refl _) _).setNew (p := ⟨w.heap.size, 3, none⟩) (Nat.le_refl _) _
          have HF := hide (And.intro z9 (And.intro o9 (And.intro r9 t9)))
          clear z9 o9 r9 t9
          clear g9
          go_wp2_with fail
          refine ce.mono ?_
          rintro e9 w10 ⟨rfl, rfl⟩
          clear ce
          go_wp2
          obtain ⟨z9, o9, r9, t9⟩ := HF.out
          obtain ⟨t0, t1, t2, t3⟩ := z9.cells
          clear z9 HF k0 k1 k2 k3 j0 j1 j2 j3 y1 y2 x0 x1 x2 x3
          simp only [put4] at t0 t1 t2 t3 o9 r9 t9
          refine bodyPost_ret (v := .agg #[.int .u64 id, .slice A1 mem.length c1, .slice B j e, .slice A7 l7.length c7]) (by simp [results, Tryz.results108, go_sem, t0, t1, t2, t3]) rfl ⟨⟨id, A1, mem.length, c1, mem, B, j, e, q, A7, l7.length, c7, l7⟩, rfl, by rw [HRS.out]; rfl, o9, HE.out.2.2, hid', by rw [HRS.out]; exact r9, t9⟩
      · have hres : RES = (noV, r5.2) := by rw [HRES.out.2.2 (by rw [HQ.out.2.1]; exact hr0), HQ.out.2.1]
        have HRS := hide hres
        clear hres
        have x5 : ((r5.2.t : Int) != 0) = true := by simp only [bne_iff_ne, ne_eq]; omega
        have x6 : ¬ ((r5.2.t : Int) = 0) := by omega
        cases tc
        · rw [show ckI false = 1 from rfl] at ck
          go_wp2_with fail
          (try rw [hw8])
          refine ck.mono ?_
          rintro e9 w9 ⟨rfl, hb9⟩
          have g9 := g8.read hb (Turn.of_below hb9 b none) (g8.rd.later hb9)
          have cs : Calls Tryz.prog 161 #[.pointer (some ⟨b, 0, none⟩), .int .i64 5] w9 (ReadsP w9 b (.tuple #[]) r5.2.l r5.2.t) := stop_more b r5.2.l r5.2.t 5 w9 g9.rd hr0
          clear g8 ck q0 q1 q2 q3 k0 k1 k2 k3 y3 hb9
          go_wp2_with fail
          refine cs.mono ?_
          rintro e9 w10 ⟨rfl, h10, ht10⟩
          have g10 := g9.read (s' := r5.2) hb ht10 h10
          have ce := err_any b r5.2.l r5.2.t w10 h10
          clear cs h10 ht10 g9
          obtain ⟨j0, j1, j2, j3⟩ := g10.z.cells
          simp only [zeroX] at j0 j1 j2 j3
          have y2 := g10.z.lt
          have x0 := g10.z.fz 0
          have x1 := g10.z.fz 1
          have x2 := g10.z.fz 2
          have x3 := g10.z.fz 3
          have z9 := g10.z.put zeroX
          have o9 : VwOwn (put4 w10 w.heap.size zeroX) w.heap.size zeroX :=
            VwOwn.mono (((((zeroX_own w10 (w.heap.size + 1 + 1)).setFar (a := ⟨w.heap.size, 0, none⟩) _ (by show w.heap.size < w.heap.size + 1 + 1; omega)).setFar (a := ⟨w.heap.size, 1, none⟩) _ (by show w.heap.size < w.heap.size + 1 + 1; omega)).setFar (a := ⟨w.heap.size, 2, none⟩) _ (by show w.heap.size < w.heap.size + 1 + 1; omega)).setFar (a := ⟨w.heap.size, 3, none⟩) _ (by show w.heap.size < w.heap.size + 1 + 1; omega)) (by omega)
          have r9 : RdAt (put4 w10 w.heap.size zeroX) b r5.2.l r5.2.t := (((g10.rd.other (p := ⟨w.heap.size, 0, none⟩) hb _).other (p := ⟨w.heap.size, 1, none⟩) hb _).other (p := ⟨w.heap.size, 2, none⟩) hb _).other (p := ⟨w.heap.size, 3, none⟩) hb _
          have t9 : Turn w (put4 w10 w.heap.size zeroX) b none := (((g10.turn.setNew (p := ⟨w.heap.size, 0, none⟩) (Nat.le_refl _) _).setNew (p := ⟨w.heap.size, 1, none⟩) (Nat.le_refl _) _).setNew (p := ⟨w.heap.size, 2, none⟩) (Nat.le_refl _) _).setNew (p := ⟨w.heap.size, 3, none⟩) (Nat.le_refl _) _
          have HF := hide (And.intro z9 (And.intro o9 (And.intro r9 t9)))
          clear z9 o9 r9 t9
          clear g10
          go_wp2_with fail
          refine ce.mono ?_
          rintro e9 w11 ⟨rfl, rfl⟩
          clear ce
          go_wp2
          obtain ⟨z9, o9, r9, t9⟩ := HF.out
          obtain ⟨t0, t1, t2, t3⟩ := z9.cells
          clear z9 HF j0 j1 j2 j3 y2 x0 x1 x2 x3
          simp only [put4, zeroX] at t0 t1 t2 t3 o9 r9 t9
          refine bodyPost_ret (v := .agg #[.int .u64 0, .slice none 0 0, .slice none 0 0, .slice none 0 0]) (by first | (simp [results, Tryz.results108, go_sem, t0, t1, t2, t3]; done) | (simp at t0 t1 t2 t3; simp [results, Tryz.results108, go_sem, t0, t1, t2, t3])) rfl ⟨zeroX, rfl, by rw [HRS.out]; rfl, o9, ⟨by decide, by decide, by decide, fun y hy => by simp [zeroX] at hy⟩, by decide, by rw [HRS.out]; exact r9, t9⟩
        · rw [show ckI true = 0 from rfl] at ck
          go_wp2_with fail
          (try rw [hw8])
          refine ck.mono ?_
          rintro e9 w10 ⟨rfl, hb9⟩
          have g10 := g8.read hb (Turn.of_below hb9 b none) (g8.rd.later hb9)
          have ce := err_any b r5.2.l r5.2.t w10 g10.rd
          clear g8 ck q0 q1 q2 q3 k0 k1 k2 k3 y3 hb9
          obtain ⟨j0, j1, j2, j3⟩ := g10.z.cells
          simp only [zeroX] at j0 j1 j2 j3
          have y2 := g10.z.lt
          have x0 := g10.z.fz 0
          have x1 := g10.z.fz 1
          have x2 := g10.z.fz 2
          have x3 := g10.z.fz 3
          have z9 := g10.z.put zeroX
          have o9 : VwOwn (put4 w10 w.heap.size zeroX) w.heap.size zeroX :=
            VwOwn.mono (((((zeroX_own w10 (w.heap.size + 1 + 1)).setFar (a := ⟨w.heap.size, 0, none⟩) _ (by show w.heap.size < w.heap.size + 1 + 1; omega)).setFar (a := ⟨w.heap.size, 1, none⟩) _ (by show w.heap.size < w.heap.size + 1 + 1; omega)).setFar (a := ⟨w.heap.size, 2, none⟩) _ (by show w.heap.size < w.heap.size + 1 + 1; omega)).setFar (a := ⟨w.heap.size, 3, none⟩) _ (by show w.heap.size < w.heap.size + 1 + 1; omega)) (by omega)
          have r9 : RdAt (put4 w10 w.heap.size zeroX) b r5.2.l r5.2.t := (((g10.rd.other (p := ⟨w.heap.size, 0, none⟩) hb _).other (p := ⟨w.heap.size, 1, none⟩) hb _).other (p := ⟨w.heap.size, 2, none⟩) hb _).other (p := ⟨w.heap.size, 3, none⟩) hb _
          have t9 : Turn w (put4 w10 w.heap.size zeroX) b none := (((g10.turn.setNew (p := ⟨w.heap.size, 0, none⟩) (Nat.le_refl _) _).setNew (p := ⟨w.heap.size, 1, none⟩) (Nat.le_refl _) _).setNew (p := ⟨w.heap.size, 2, none⟩) (Nat.le_refl _) _).setNew (p := ⟨w.heap.size, 3, none⟩) (Nat.le_refl _) _
          have HF := hide (And.intro z9 (And.intro o9 (And.intro r9 t9)))
          clear z9 o9 r9 t9
          clear g10
          go_wp2_with fail
          refine ce.mono ?_
          rintro e9 w11 ⟨rfl, rfl⟩
          clear ce
          go_wp2
          obtain ⟨z9, o9, r9, t9⟩ := HF.out
          obtain ⟨t0, t1, t2, t3⟩ := z9.cells
          clear z9 HF j0 j1 j2 j3 y2 x0 x1 x2 x3
          simp only [put4, zeroX] at t0 t1 t2 t3 o9 r9 t9
          refine bodyPost_ret (v := .agg #[.int .u64 0, .slice none 0 0, .slice none 0 0, .slice none 0 0]) (by first | (simp [results, Tryz.results108, go_sem, t0, t1, t2, t3]; done) | (simp at t0 t1 t2 t3; simp [results, Tryz.results108, go_sem, t0, t1, t2, t3])) rfl ⟨zeroX, rfl, by rw [HRS.out]; rfl, o9, ⟨by decide, by decide, by decide, fun y hy => by simp [zeroX] at hy⟩, by decide, by rw [HRS.out]; exact r9, t9⟩
end Go.Proofs.YtjmkecaljkcoiaaGreatDoor
