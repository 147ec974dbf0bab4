import Derived.LoopN
import Derived.Test.YtjmkecaljkcoiaaGreatDoorQRd4
import Derived.Test.YtjmkecaljkcoiaaGreatDoorQFlowA
namespace Go.Proofs.YtjmkecaljkcoiaaGreatDoor
open Go.RowKit
set_option linter.unusedVariables false
set_option linter.unusedSimpArgs false
def prOf (l : List UInt8) : Pr := ⟨(pidG l).1, (pidG l).2.1, (pidG_bds l).1, (pidG_bds l).2.1⟩
def prd : Nat → List UInt8 → List Pr × List UInt8 × Nat
  | 0, l => ([], l, 0)
  | n + 1, l => if (pidG l).2.2.2 = 0 then (prOf l :: (prd n (l.drop (pidG l).2.2.1)).1, (prd n (l.drop (pidG l).2.2.1)).2.1, (prd n (l.drop (pidG l).2.2.1)).2.2) else ([], l, (pidG l).2.2.2)
def psE (l : List UInt8) (most : Nat) : Nat := if numE l most = 0 then (prd (getF l).1 (l.drop (getF l).2.1)).2.2 else numE l most
def psV (l : List UInt8) : List Pr := (prd (getF l).1 (l.drop (getF l).2.1)).1
def psR (l : List UInt8) : List UInt8 := (prd (getF l).1 (l.drop (getF l).2.1)).2.1
def GP (base : Nat) (L : List Pr) (v : Value) (w : World) : Prop := ∃ A c, v = .slice A L.length c ∧ OwnP w base (.slice A L.length c) L.length L
theorem OwnE.setLow {α : Type} {enc : α → List Value} {k : Nat} {T : TypeId} {w : World} {base n : Nat} {v : Value} {l : List α} (h : OwnE T enc k w base v n l) {p : Addr} (hp : p.block < base) (u : Value) : OwnE T enc k (w.setCell p u) base v n l := by
  refine ⟨h.1, ?_⟩
  rcases h.2 with h0 | ⟨g, cap, cur, rfl, hb, hh, r⟩
  · exact .inl h0
  · exact .inr ⟨g, cap, cur, rfl, hb, (Below.heap_setCell w p u g (by omega)).trans hh, r⟩
theorem OwnE.turnLow {α : Type} {enc : α → List Value} {k : Nat} {T : TypeId} {w w' : World} {base n b : Nat} {v : Value} {l : List α} (h : OwnE T enc k w base v n l) (ht : Turn w w' b none) (hb : b < base) : OwnE T enc k w' base v n l := by
  refine ⟨h.1, ?_⟩
  rcases h.2 with h0 | ⟨g, cap, cur, rfl, hg, hh, r⟩
  · exact .inl h0
  · exact .inr ⟨g, cap, cur, rfl, hg, (ht.block g (Array.getElem?_eq_some_iff.1 hh).1 (by omega) (by simp)).trans hh, r⟩
theorem GP.set_ {base : Nat} {L : List Pr} {v : Value} {w : World} (h : GP base L v w) {p : Addr} (hp : p.block < base) (u : Value) : GP base L v (w.setCell p u) := by
  obtain ⟨A, c, e, h⟩ := h
  exact ⟨A, c, e, h.setLow hp u⟩
theorem GP.mono {base base' : Nat} {L : List Pr} {v : Value} {w : World} (h : GP base L v w) (hb : base' ≤ base) : GP base' L v w := by
  obtain ⟨A, c, e, h⟩ := h
  exact ⟨A, c, e, h.mono hb⟩
theorem Turn.grownNew {w w2 w3 : World} {b : Nat} {mg row : Option Nat} (h : Turn w w2 b mg) (hg : w2.grownBy w3 row) (hr : ∀ g, row = some g → w.heap.size ≤ g) : Turn w w3 b mg :=
  ⟨hg.os.trans h.os, hg.tape.trans h.tape, hg.output.trans h.output, Nat.le_trans h.size hg.size, fun i hi h1 h2 => (hg.block i (Nat.lt_of_lt_of_le hi h.size) (fun e => by have := hr i e.symm; omega)).trans (h.block i hi h1 h2)⟩
theorem RdAt.grown {w w' : World} {b t : Nat} {l : List UInt8} {row : Option Nat} (h : RdAt w b l t) (hg : w.grownBy w' row) (hr : ∀ g, row = some g → b < g) : RdAt w' b l t := by
  obtain ⟨A, c, h⟩ := h
  have hlt := h.lt
  exact ⟨A, c, h.keep fun i hi => hg.block i (by omega) (fun e => by have := hr i e.symm; omega)⟩
theorem es_pr (w : World) (q : Pr) (T : TypeId) : Es prC (w.alloc (.cells #[.int .u16 q.i, .int .u32 q.k] T)) (w.heap.size + 1) (some ⟨w.heap.size, 0, none⟩) 1 [q] := by
  refine ⟨rfl, fun _ => ⟨_, rfl, Nat.lt_succ_self _, fun j v hv => ?_⟩⟩
  rw [ec_one] at hv
  have hj : j < 2 := (List.getElem?_eq_some_iff.1 hv).1
  obtain rfl | rfl : j = 0 ∨ j = 1 := by omega
  · simp [prC] at hv
    subst hv
    exact cell_of_row _ _ 0 _ T (0, 0) (heap_alloc_new w _)
  · simp [prC] at hv
    subst hv
    exact cell_of_row _ _ 1 _ T (0, 0) (heap_alloc_new w _)
def PsInv (N : Nat) (M : List UInt8) (n : Nat) (acc : List Pr) (rest : List UInt8) (t : Nat) : Prop :=
  (t = 0 ∧ prd N M = (acc ++ (prd n rest).1, (prd n rest).2.1, (prd n rest).2.2)) ∨ (t ≠ 0 ∧ (prd N M).2.2 = t)
theorem PsInv.start (N : Nat) (M : List UInt8) : PsInv N M N [] M 0 := .inl ⟨rfl, rfl⟩
theorem PsInv.step {N n : Nat} {M rest : List UInt8} {acc : List Pr} (h : PsInv N M (n + 1) acc rest 0) (hp : (pidG rest).2.2.2 = 0) : PsInv N M n (acc ++ [prOf rest]) (rest.drop (pidG rest).2.2.1) 0 := by
  rcases h with ⟨_, h⟩ | ⟨h, _⟩
  · refine .inl ⟨rfl, ?_⟩
    rw [h, prd, if_pos hp]
    simp
  · exact absurd rfl h
theorem PsInv.bad {N n : Nat} {M rest : List UInt8} {acc acc' : List Pr} (h : PsInv N M (n + 1) acc rest 0) (hp : (pidG rest).2.2.2 ≠ 0) : PsInv N M n acc' rest (pidG rest).2.2.2 := by
  rcases h with ⟨_, h⟩ | ⟨h, _⟩
  · refine .inr ⟨hp, ?_⟩
    rw [h, prd, if_neg hp]
  · exact absurd rfl h
theorem PsInv.done {N : Nat} {M rest : List UInt8} {acc : List Pr} (h : PsInv N M 0 acc rest 0) : (prd N M).1 = acc ∧ (prd N M).2.1 = rest ∧ (prd N M).2.2 = 0 := by
  rcases h with ⟨_, h⟩ | ⟨h, _⟩
  · rw [h]; simp [prd]
  · exact absurd rfl h
theorem PsInv.out {N n t : Nat} {M rest : List UInt8} {acc : List Pr} (h : PsInv N M n acc rest t) (ht : t ≠ 0) : (prd N M).2.2 = t := by
  rcases h with ⟨h, _⟩ | ⟨_, h⟩
  · exact absurd h ht
  · exact h
def Ps1P (w : World) (b base : Nat) (l : List UInt8) (most : Nat) : Ending → World → Prop := CloP w b (fun v _ => ∃ (V : Option Addr) (m d : Nat), v = .slice V m d) (GP base (psV l)) (psR l) (psE l most)
def PsRel (w wr : World) (b N n : Nat) (M : List UInt8) (v : Value) : Prop :=
  ∃ acc rest t A q c, v = .slice A q c ∧ OwnP wr w.heap.size (.slice A q c) q acc ∧ RdAt wr b rest t ∧ Turn w wr b none ∧ PsInv N M n acc rest t ∧ q + n = N
set_option maxRecDepth 100000 in
set_option maxHeartbeats 1000000 in
theorem ps1_any (b p q base : Nat) (l : List UInt8) (most : Int) (w : World) (h : RdAt w b l 0) (hp : w.cell? ⟨p, 0, none⟩ = some (.pointer (some ⟨b, 0, none⟩))) (hq : w.cell? ⟨q, 0, none⟩ = some (.int .i64 most)) (hpb : p ≠ b) (hqb : q ≠ b) (hm0 : -9223372036854775808 ≤ most) (hm1 : most ≤ 1000000) (hbase : base ≤ w.heap.size) :
    Calls Tryz.prog 210 #[.pointer (some ⟨p, 0, none⟩), .pointer (some ⟨q, 0, none⟩)] w (Ps1P w b base l (mostF most)) := by
  obtain ⟨i0, hi, hz0, hz1, hz2⟩ := info_parts info_pid
  have hlt := h.lt
  have hm64 : mostF most ≤ 1000000 := by unfold mostF; omega
  have ca := fun W => atMost_any most W hm0 (by omega)
  have cok := fun W (h : RdAt W b l 0) => rdnum_ok b l (mostF most) W h (by omega)
  have cbad := fun W (h : RdAt W b l 0) => rdnum_bad b l (mostF most) W h (by omega)
  have g1 := fun W (ht : Turn w W b none) => ht.cell hp (by simpa using hpb) (by simp)
  have g2 := fun W (ht : Turn w W b none) => ht.cell hq (by simpa using hqb) (by simp)
  by_cases hE : numE l (mostF most) = 0
  · have hB : psE l (mostF most) = (prd (getF l).1 (l.drop (getF l).2.1)).2.2 := by unfold psE; rw [if_pos hE]
    have c1 := fun W h => cok W h hE
    have hn := Nat.le_trans (numE_le hE) hm64
    have hZ : ∀ V m d l' t w', t = psE l (mostF most) → RdAt w' b l' t → Turn w w' b none → (t = 0 → l' = psR l ∧ GP base (psV l) (.slice V m d) w') → Ps1P w b base l (mostF most) (.returned (.slice V m d)) w' := by
      intro V m d l' t w' e1 e3 e4 e5
      subst e1
      exact ⟨_, l', rfl, ⟨_, _, _, rfl⟩, e3, e4, e5⟩
    have hR : psR l = (prd (getF l).1 (l.drop (getF l).2.1)).2.1 := rfl
    have hV : psV l = (prd (getF l).1 (l.drop (getF l).2.1)).1 := rfl
    rw [hB] at hZ
    rw [hR, hV] at hZ
    have HZ := Lib.hid hZ
    clear cok cbad hE hZ hB hR hV
    generalize (getF l).1 = N at *
    generalize l.drop (getF l).2.1 = M at *
    generalize mostF most = m9 at *
    have HN := Lib.hid hn
    have G1 := Lib.hid g1
    go_enter Tryz.func210, Tryz.ntmps210
    go_wp2
    go_region_held3 (fun w' => w'.cell? ⟨p, 0, none⟩ = some (.pointer (some ⟨b, 0, none⟩)) ∧ w'.cell? ⟨q, 0, none⟩ = some (.int .i64 most))
      (first | exact ⟨hp, hq⟩ | exact ⟨g1 _ hT2, g2 _ hT2⟩)
      (first | ((with_reducible refine (ca _).mono ?_); rintro e w' ⟨rfl, rfl⟩) | ((with_reducible refine (c1 _ (rdAt_drew h)).mono ?_); rintro e w2 ⟨rfl, h2, ht2⟩; have hT2 : Turn w w2 b none := Turn.ahead ((Below.refl _ _).drew) ht2))
    have hp2 := g1 _ hT2
    have hq2 := g2 _ hT2
    clear ht2
    have ht2 := hT2
    clear hT2 g1 g2 c1 ca hp hq h
    have H0 : PsRel w w2 b N N M (.slice none 0 0) := ⟨[], M, 0, none, 0, 0, rfl, OwnE.nil_ _ _, h2, ht2, PsInv.start N M, by omega⟩
    clear h2 ht2 hp2 hq2
    go_wp2
    go_loopw [3, 4] (fun v x wr => ∃ n : Nat, x = .int .u64 n ∧ PsRel w wr b N n M v) (fun _ x _ => (intOf x).toNat)
    case atStart => exact ⟨N, rfl, H0⟩
    case round =>
      obtain ⟨n, rfl, acc, rest, t, A, r, c, rfl, hO, hR, hT, hI, hrn⟩ := hrel
      clear H0
      have hN := HN.out
      have hp2 := G1.out _ hT
      have hblt := hR.lt
      obtain ⟨A0, c0, k0⟩ := id hR
      obtain ⟨f0, f1⟩ := k0.cells
      have hsz := hT.size
      clear k0
      by_cases hn0 : n = 0
      · subst hn0
        by_cases ht : t = 0
        · subst ht
          obtain ⟨e1, e2, e3⟩ := hI.done
          have hrl := hO.len prOk
          have hW := HZ.out A r c rest 0 wr e3.symm hR hT (fun _ => ⟨e2.symm, A, c, by rw [e1, hrl], by rw [e1, hrl]; exact hO.mono hbase⟩)
          have HW := Lib.hid hW
          clear hW e1 e2 e3 hrl hO hR hT hI hrn
          go_wp2
          go_ret
          exact HW.out
        · have e3 := hI.out ht
          have hW := HZ.out A r c rest t wr e3.symm hR hT (fun e => absurd e ht)
          have HW := Lib.hid hW
          clear hW e3 hO hR hT hI hrn ht
          go_wp2
          go_ret
          exact HW.out
      · obtain ⟨m, rfl⟩ : ∃ m, n = m + 1 := ⟨n - 1, by omega⟩
        have w9 : IntKind.u64.wrap (((m + 1 : Nat) : Int) - 1) = (m : Int) := by rw [IntKind.wrap_u64]; omega
        have z9 : (0 : Int) < ((m + 1 : Nat) : Int) := by omega
        have m9b : ((m + 1 : Nat) : Int) ≤ 1000000 := by omega
        by_cases ht : t = 0
        · subst ht
          by_cases hP : (pidG rest).2.2.2 = 0
          · have cp := rdpid_ok b rest wr hR hP
            have hI2 := hI.step hP
            have hpr : ∃ x : Pr, x = prOf rest ∧ (pidG rest).1 = x.i ∧ (pidG rest).2.1 = x.k := ⟨_, rfl, rfl, rfl⟩
            obtain ⟨x, hx, hx1, hx2⟩ := hpr
            rw [← hx] at hI2
            rw [hx1, hx2] at cp
            clear hx hx1 hx2 hI hR
            have hOa := fun W (k : Below wr.heap.size wr W) => hO.later k
            go_wp2_with fail
            refine cp.mono ?_
            rintro e w3 ⟨rfl, h3, ht3⟩
            have hO3 := hO.turnLow ht3 hlt
            have hT3 := hT.trans ht3 (Mov.refl _ _)
            have hs3 := hT3.size
            clear cp hO hT f0 f1 hOa ht3 hp2
            go_wp2_with (at_builtin; refine wp_append_e _ rfl (.tmp 20) (.tmp 23) 23 rfl 44 i0 _ 8 Tryz.underlying23 hi hz0 ‹_› hz2 rfl prOk w.heap.size r _ acc rfl (hO3.alloc _) (w3.heap.size + 1) _ 1 1 [x] rfl (es_pr w3 x _) (by unfold maxLen; omega) (by omega) 0 _ (Below.refl _ _) (Nat.zero_le _) (by simp; omega) ?_; intro A2 c2 w4 r1 r2 r3 r4; refine Hid.out ?_)
            have r5 : (w3.alloc (.cells #[.int .u16 x.i, .int .u32 x.k] 44)).grownBy w4 (Value.slice A r c).ownBlock := r4
            have r6 : OwnP w4 w.heap.size (.slice A2 (r + 1) c2) (r + 1) (acc ++ [x]) := r1
            have hT4 := (hT3.alloc (.cells #[.int .u16 x.i, .int .u32 x.k] 44)).grownNew r5 (fun g hg => (hO3.lt g hg).1)
            have hR4 := (h3.alloc (.cells #[.int .u16 x.i, .int .u32 x.k] 44)).grown r5 (fun g hg => by have := (hO3.lt g hg).1; omega)
            have hrl : PsRel w w4 b N m M (.slice A2 (r + 1) c2) := ⟨_, _, _, A2, r + 1, c2, rfl, r6, hR4, hT4, hI2, by omega⟩
            have HR := Lib.hid hrl
            refine Lib.hid ?_
            clear r1 r2 r3 r4 r5 r6 hT4 hR4 hrl hO3 hT3 h3 hI2 hrn
            go_wp2_with fail
            go_roundw
            case rel => exact ⟨m, by go_num, HR.out⟩
            case measure => simp [intOf]
          · have cp := rdpid_bad b rest wr hR hP
            have hI2 := hI.bad (acc' := acc ++ [⟨0, 0, by decide, by decide⟩]) hP
            generalize (pidG rest).2.2.2 = t2 at *
            clear hI hR
            obtain ⟨x, hx⟩ : ∃ x : Pr, x = ⟨0, 0, by decide, by decide⟩ := ⟨_, rfl⟩
            rw [← hx] at hI2
            have hx1 : (0 : Int) = (x.i : Int) := by rw [hx]; rfl
            have hx2 : (0 : Int) = (x.k : Int) := by rw [hx]; rfl
            have cp' : Calls Tryz.prog 104 #[.pointer (some ⟨b, 0, none⟩)] wr (ReadsP wr b (.agg #[.int .u16 x.i, .int .u32 x.k]) rest t2) := by rw [← hx1, ← hx2]; exact cp
            clear cp hx hx1 hx2 hP
            have hOa := fun W (k : Below wr.heap.size wr W) => hO.later k
            go_wp2_with fail
            refine cp'.mono ?_
            rintro e w3 ⟨rfl, h3, ht3⟩
            have hO3 := hO.turnLow ht3 hlt
            have hT3 := hT.trans ht3 (Mov.refl _ _)
            have hs3 := hT3.size
            clear cp' hO hT f0 f1 hOa ht3 hp2
            go_wp2_with (at_builtin; refine wp_append_e _ rfl (.tmp 20) (.tmp 23) 23 rfl 44 i0 _ 8 Tryz.underlying23 hi hz0 ‹_› hz2 rfl prOk w.heap.size r _ acc rfl (hO3.alloc _) (w3.heap.size + 1) _ 1 1 [x] rfl (es_pr w3 x _) (by unfold maxLen; omega) (by omega) 0 _ (Below.refl _ _) (Nat.zero_le _) (by simp; omega) ?_; intro A2 c2 w4 r1 r2 r3 r4; refine Hid.out ?_)
            have r5 : (w3.alloc (.cells #[.int .u16 x.i, .int .u32 x.k] 44)).grownBy w4 (Value.slice A r c).ownBlock := r4
            have r6 : OwnP w4 w.heap.size (.slice A2 (r + 1) c2) (r + 1) (acc ++ [x]) := r1
            have hT4 := (hT3.alloc (.cells #[.int .u16 x.i, .int .u32 x.k] 44)).grownNew r5 (fun g hg => (hO3.lt g hg).1)
            have hR4 := (h3.alloc (.cells #[.int .u16 x.i, .int .u32 x.k] 44)).grown r5 (fun g hg => by have := (hO3.lt g hg).1; omega)
            have hrl : PsRel w w4 b N m M (.slice A2 (r + 1) c2) := ⟨_, _, _, A2, r + 1, c2, rfl, r6, hR4, hT4, hI2, by omega⟩
            have HR := Lib.hid hrl
            refine Lib.hid ?_
            clear r1 r2 r3 r4 r5 r6 hT4 hR4 hrl hO3 hT3 h3 hI2 hrn
            go_wp2_with fail
            go_roundw
            case rel => exact ⟨m, by go_num, HR.out⟩
            case measure => simp [intOf]
        · have e3 := hI.out ht
          have hW := HZ.out A r c rest t wr e3.symm hR hT (fun e => absurd e ht)
          have HW := Lib.hid hW
          have t1 : ((t : Int) == 0) = false := by simp; omega
          clear hW e3 hO hR hT hI hrn ht
          go_wp2
          go_ret
          exact HW.out
  · have hB : psE l (mostF most) = numE l (mostF most) := by unfold psE; rw [if_neg hE]
    have c1 := fun W h => cbad W h hE
    have hZ : ∀ V m d l' w', RdAt w' b l' (numE l (mostF most)) → Turn w w' b none → Ps1P w b base l (mostF most) (.returned (.slice V m d)) w' := by
      intro V m d l' w' e3 e4
      exact ⟨_, l', rfl, ⟨_, _, _, rfl⟩, by rw [hB]; exact e3, e4, fun e => absurd (hB.symm.trans e) hE⟩
    have HZ := Lib.hid hZ
    clear cok cbad hB hZ
    generalize numE l (mostF most) = t9 at *
    generalize mostF most = m9 at *
    go_enter Tryz.func210, Tryz.ntmps210
    go_wp2
    go_region_held3 (fun w' => w'.cell? ⟨p, 0, none⟩ = some (.pointer (some ⟨b, 0, none⟩)) ∧ w'.cell? ⟨q, 0, none⟩ = some (.int .i64 most))
      (first | exact ⟨hp, hq⟩ | exact ⟨g1 _ hT2, g2 _ hT2⟩)
      (first | ((with_reducible refine (ca _).mono ?_); rintro e w' ⟨rfl, rfl⟩) | ((with_reducible refine (c1 _ (rdAt_drew h)).mono ?_); rintro e w2 ⟨rfl, h2, ht2⟩; have hT2 : Turn w w2 b none := Turn.ahead ((Below.refl _ _).drew) ht2))
    have hp2 := g1 _ hT2
    have hq2 := g2 _ hT2
    clear ht2
    have ht2 := hT2
    clear hT2 g1 g2 c1 ca hp hq h
    obtain ⟨A, c, k2⟩ := id h2
    obtain ⟨f0, f1⟩ := k2.cells
    have HW := Lib.hid (HZ.out none 0 0 l w2 h2 ht2)
    have t1 : ((t9 : Int) == 0) = false := by simp; omega
    clear k2 h2 ht2 hE
    go_wp2
    refine wp_loop_rounds 1 ?_
    rw [rounds_succ]
    go_wp2
    go_ret
    exact HW.out
set_option maxRecDepth 100000 in
theorem rdpids_any (b : Nat) (l : List UInt8) (most : Int) (w : World) (h : RdAt w b l 0) (hm0 : -9223372036854775808 ≤ most) (hm1 : most ≤ 1000000) :
    Calls Tryz.prog 170 #[.pointer (some ⟨b, 0, none⟩), .int .i64 most] w (WholeG w b (.slice none 0 0) (GP w.heap.size (psV l)) l (psR l) (psE l (mostF most))) := by
  have hmf : ∀ (fn : Fn) (first cap : Array Value) (w : World), (Instr.makeFunc fn first cap).run Tryz.prog w = .ok (.func fn first cap) w := fun _ _ _ _ => rfl
  have hb1 : Below w.heap.size w ((w.alloc (.cells #[.pointer (some ⟨b, 0, none⟩)] 91)).alloc (.cells #[.int .i64 most] 3)) := ((Below.refl _ _).alloc (Nat.le_refl _) _).alloc (by simp) _
  have hlt := h.lt
  obtain ⟨w1, hw1⟩ : ∃ w1, w1 = ((w.alloc (.cells #[.pointer (some ⟨b, 0, none⟩)] 91)).alloc (.cells #[.int .i64 most] 3)) := ⟨_, rfl⟩
  have hs1 : w1.heap.size = w.heap.size + 2 := by rw [hw1]; simp
  have hp1 : w1.cell? ⟨w.heap.size, 0, none⟩ = some (.pointer (some ⟨b, 0, none⟩)) := by rw [hw1]; go_simp
  have hq1 : w1.cell? ⟨w.heap.size + 1, 0, none⟩ = some (.int .i64 most) := by rw [hw1]; go_simp
  rw [← hw1] at hb1
  have h1 := h.later hb1
  have hle := hb1.size
  have cw := pids_whole b w.heap.size (w.heap.size + 1) l (psR l) (psE l (mostF most)) (GP (w1.heap.size + 2) (psV l)) w1 h1 (fun _ _ _ _ hW h => h.set_ (by simp) _) (fun W hb hs hR => ps1_any b w.heap.size (w.heap.size + 1) (w1.heap.size + 2) l most W hR ((hb.cell (World.block_lt_of_cell? _ _ hp1)).trans hp1) ((hb.cell (World.block_lt_of_cell? _ _ hq1)).trans hq1) (by omega) (by omega) hm0 hm1 hs)
  clear h1 h
  generalize psV l = V9 at *
  generalize psR l = lr9 at *
  generalize psE l (mostF most) = t9 at *
  have hH := hide hs1
  clear hs1
  go_enter Tryz.func170, Tryz.ntmps170
  go_wp2_with fail
  rw [← hw1]
  clear hw1
  refine cw.mono ?_
  rintro e w2 (⟨ht, v, rfl, hg, hR, hT⟩ | ⟨ht, rfl, hR, hT⟩)
  · have hz : WholeG w b (.slice none 0 0) (GP w.heap.size V9) l (lr9) (t9) (.returned v) w2 := .inl ⟨ht, v, rfl, hg.mono (by omega), hR, Turn.ahead hb1 hT⟩
    have HZ := Lib.hid hz
    clear hz hg hR hT ht cw
    go_wp2
    go_ret
    exact HZ.out
  · have hz : WholeG w b (.slice none 0 0) (GP w.heap.size V9) l (lr9) (t9) (.returned (.slice none 0 0)) w2 := .inr ⟨ht, rfl, hR, Turn.ahead hb1 hT⟩
    have HZ := Lib.hid hz
    clear hz hR hT ht cw
    go_wp2
    go_ret
    exact HZ.out
set_option maxRecDepth 100000 in
theorem rdpids_stop (b t : Nat) (l : List UInt8) (most : Int) (w : World) (h : RdAt w b l t) (ht : t ≠ 0) :
    Calls Tryz.prog 170 #[.pointer (some ⟨b, 0, none⟩), .int .i64 most] w (ReadsP w b (.slice none 0 0) l t) := by
  have hmf : ∀ (fn : Fn) (first cap : Array Value) (w : World), (Instr.makeFunc fn first cap).run Tryz.prog w = .ok (.func fn first cap) w := fun _ _ _ _ => rfl
  have hb1 : Below w.heap.size w ((w.alloc (.cells #[.pointer (some ⟨b, 0, none⟩)] 91)).alloc (.cells #[.int .i64 most] 3)) := ((Below.refl _ _).alloc (Nat.le_refl _) _).alloc (by simp) _
  have cw := fun f W (h : RdAt W b l t) => pids_stop f b t l W h ht
  obtain ⟨w1, hw1⟩ : ∃ w1, w1 = ((w.alloc (.cells #[.pointer (some ⟨b, 0, none⟩)] 91)).alloc (.cells #[.int .i64 most] 3)) := ⟨_, rfl⟩
  have hlt := h.lt
  rw [← hw1] at hb1
  have h1 := h.later hb1
  clear h
  have hle := hb1.size
  go_enter Tryz.func170, Tryz.ntmps170
  go_wp2_with fail
  rw [← hw1]
  clear hw1
  refine (cw _ w1 h1).mono ?_
  rintro e w2 ⟨rfl, hR, hT⟩
  clear cw
  have hz : ReadsP w b (.slice none 0 0) l t (.returned (.slice none 0 0)) w2 := ⟨rfl, hR, Turn.ahead hb1 hT⟩
  have HZ := Lib.hid hz
  clear hz
  go_wp2
  go_ret
  exact HZ.out
end Go.Proofs.YtjmkecaljkcoiaaGreatDoor
