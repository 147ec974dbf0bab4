import Derived.Test.YtjmkecaljkcoiaaGreatDoorQMsg8M
import Derived.Test.YtjmkecaljkcoiaaGreatDoorQRfN
import Derived.Test.YtjmkecaljkcoiaaGreatDoorQRfT
import Derived.Test.YtjmkecaljkcoiaaGreatDoorQRdU
namespace Go.Proofs.YtjmkecaljkcoiaaGreatDoor
open Go.RowKit Go.Maps
set_option linter.unusedVariables false
set_option linter.unusedSimpArgs false
def letL (m : Ms) (c : UInt8) : List UInt8 :=
  if c = 119 then pidL m.who.i m.who.k else if c = 118 then shortL m.view else if c = 115 then shortL m.slot else if c = 98 then shortL m.b.r ++ pidL m.b.p.i m.b.p.k else if c = 110 then shortL m.num else if c = 104 then shortL m.hops.toNat else
  if c = 112 then (if m.has then boolL m.has ++ (shortL m.a.r ++ pidL m.a.p.i m.a.p.k) ++ formC m.c else boolL m.has) else if c = 99 then formC m.c else if c = 86 then viewL m.v else shortL m.d.length ++ m.d
theorem ten_of {k : Int} {c : UInt8} (h : c ∈ fldI k) : c = 119 ∨ c = 118 ∨ c = 115 ∨ c = 98 ∨ c = 110 ∨ c = 104 ∨ c = 112 ∨ c = 99 ∨ c = 86 ∨ c = 121 := by
  have hs : fldI k ≠ [] := fun e => by rw [e] at h; simp at h
  rcases fourteen (fldI_some.1 hs) with rfl | rfl | rfl | rfl | rfl | rfl | rfl | rfl | rfl | rfl | rfl | rfl | rfl | rfl
  all_goals
    clear hs
    revert c
    decide
end Go.Proofs.YtjmkecaljkcoiaaGreatDoor
namespace Go.Proofs.YtjmkecaljkcoiaaGreatDoor
open Go.RowKit Go.Maps
set_option linter.unusedVariables false
set_option linter.unusedSimpArgs false
theorem xend_any (b : Nat) (l : List UInt8) (t : Nat) (w : World) (h : RfAt w b l t) :
    Calls Tryz.prog 61 #[.pointer (some ⟨b, 0, none⟩)] w fun e w' => e = .returned (.int .i64 (endF l t : Nat)) ∧ w = w' := by
  obtain ⟨A, c, h⟩ := h
  obtain ⟨f0, f1⟩ := h.cells
  clear h
  unfold endF
  by_cases ht : t = 0
  · subst ht
    obtain ⟨n, hn⟩ : ∃ n, n = l.length := ⟨_, rfl⟩
    rw [← hn] at f0 ⊢
    clear hn
    have f1' : w.cell? ⟨b, 1, none⟩ = some (.int .i64 0) := f1
    by_cases hl : n = 0
    · rw [if_pos rfl, if_pos hl]
      subst hl
      have f0' : w.cell? ⟨b, 0, none⟩ = some (.slice A 0 c) := f0
      clear f0 f1
      go_enter Tryz.func61, Tryz.ntmps61
      go_wp2
      go_ret
      exact ⟨rfl, rfl⟩
    · rw [if_pos rfl, if_neg hl]
      have x1 : 0 < n := by omega
      clear f1 hl
      go_enter Tryz.func61, Tryz.ntmps61
      go_wp2
      go_ret
      exact ⟨rfl, rfl⟩
  · rw [if_neg ht]
    have t1 : ((t : Int) == 0) = false := by rw [beq_eq_false_iff_ne]; omega
    clear ht
    go_enter Tryz.func61, Tryz.ntmps61
    go_wp2
    go_ret
    exact ⟨rfl, rfl⟩
end Go.Proofs.YtjmkecaljkcoiaaGreatDoor
namespace Go.Proofs.YtjmkecaljkcoiaaGreatDoor
open Go.RowKit Go.Maps
set_option linter.unusedVariables false
set_option linter.unusedSimpArgs false
theorem pidsS_eq (most : Nat) (s : RS) : pidsS most s = if (numS most s).2.t = 0 then (if (prd (numS most s).1 (numS most s).2.l).2.2 = 0 then ((prd (numS most s).1 (numS most s).2.l).1, ⟨(prd (numS most s).1 (numS most s).2.l).2.1, 0⟩) else ([], ⟨s.l, (prd (numS most s).1 (numS most s).2.l).2.2⟩)) else ([], ⟨s.l, (numS most s).2.t⟩) := by
  obtain ⟨l, t⟩ := s
  by_cases ht : t = 0
  · subst ht
    by_cases hE : numE l most = 0
    · have e : numS most ⟨l, 0⟩ = ((getF l).1, ⟨l.drop (getF l).2.1, 0⟩) := by unfold numS; rw [if_pos rfl, if_pos hE]
      rw [e]
      simp only [if_true]
      unfold pidsS psE psV psR
      simp only [if_true, hE]
    · have e : numS most ⟨l, 0⟩ = (0, ⟨l, numE l most⟩) := by unfold numS; rw [if_pos rfl, if_neg hE]
      rw [e]
      simp only [if_neg hE]
      unfold pidsS psE
      simp [hE]
  · rw [numS_stop (s := ⟨l, t⟩) ht, pidsS_stop (s := ⟨l, t⟩) ht, if_neg ht]
section
variable {w w' : World} {b t : Nat} {l : List UInt8}
theorem RfAt.grown {row : Option Nat} (h : RfAt w b l t) (hg : w.grownBy w' row) (hr : ∀ g, row = some g → b < g) : RfAt w' b l t := by
  obtain ⟨A, c, h⟩ := h
  have hlt := h.lt
  exact ⟨A, c, h.keep fun i hi => hg.block i (by omega) (fun e => by have := hr i e.symm; omega)⟩
end
def PidsF (w : World) (b : Nat) (r : List Pr × RS) (e : Ending) (w' : World) : Prop := ∃ A c, e = .returned (.slice A r.1.length c) ∧ OwnP w' w.heap.size (.slice A r.1.length c) r.1.length r.1 ∧ RfAt w' b r.2.l r.2.t ∧ Turn w w' b none
set_option maxRecDepth 100000 in
set_option maxHeartbeats 4000000 in
theorem xpids_tot (b most : Nat) (s : RS) (w : World) (h : RfAt w b s.l s.t) (hm : most ≤ 1000000) :
    Calls Tryz.prog 117 #[.pointer (some ⟨b, 0, none⟩), .int .i64 most] w (PidsF w b (pidsS most s)) := by
  obtain ⟨i0, hi, hz0, hz1, hz2⟩ := info_parts info_pid
  have hEQ := pidsS_eq most s
  have cn := xnum_tot b most s w h (by omega)
  have hle := numS_le most s
  have hnz := @numS_zero most s
  generalize pidsS most s = RES at *
  generalize numS most s = r at *
  obtain ⟨n, s1⟩ := r
  obtain ⟨l, t⟩ := s
  obtain ⟨l1, t1⟩ := s1
  dsimp only at h hEQ cn hle hnz
  have hbl := h.lt
  obtain ⟨A, c, h⟩ := h
  obtain ⟨f0, f1⟩ := h.cells
  have e1 : max (most : Int) 0 = (most : Int) := by omega
  have e2 : IntKind.u64.wrap (most : Int) = (most : Int) := by rw [IntKind.wrap_u64]; omega
  have HEQ := hide hEQ
  have HNZ := hide hnz
  clear hEQ hnz
  go_enter Tryz.func117, Tryz.ntmps117
  go_wp2_with fail
  refine cn.mono ?_
  rintro e w2 ⟨rfl, h2, ht2⟩
  clear cn f0 f1 e1 e2
  have I0 : (t1 = 0 ∧ PsInv n l1 n [] l1 0) ∨ (t1 ≠ 0 ∧ n = 0) := by
    by_cases e : t1 = 0
    · exact .inl ⟨e, PsInv.start n l1⟩
    · exact .inr ⟨e, HNZ.out e⟩
  go_wp2
  go_loopw [7, 8] (fun v i wr => ∃ (j : Nat) (A' : Option Addr) (c' : Nat) (q : List Pr) (rest : List UInt8) (t' : Nat), j ≤ n ∧ i = .int .u64 j ∧ v = .slice A' j c' ∧ OwnP wr w.heap.size (.slice A' j c') j q ∧ RfAt wr b rest t' ∧ Turn w wr b none ∧ ((t1 = 0 ∧ PsInv n l1 (n - j) q rest t') ∨ (t1 ≠ 0 ∧ n = 0 ∧ t' = t1))) (fun _ i _ => n - (intOf i).toNat)
  case atStart =>
    refine ⟨0, none, 0, [], l1, t1, Nat.zero_le _, rfl, rfl, OwnE.nil_ _ _, h2, ht2, ?_⟩
    rcases I0 with ⟨e, hI⟩ | ⟨e, hI⟩
    · exact .inl ⟨e, by rw [e]; exact hI⟩
    · exact .inr ⟨e, hI, rfl⟩
  case round =>
    clear h2 ht2 I0
    obtain ⟨j, A', c', q, rest, t', hj, rfl, rfl, hO, ⟨A1, c1, hR⟩, hT, hI⟩ := hrel
    obtain ⟨g0, g1⟩ := hR.cells
    have gz0 := hR.frozen 0
    have hsz := hT.size
    have hblr := hR.lt
    by_cases hjt : j < n ∧ t' = 0
    · obtain ⟨hjl, rfl⟩ := hjt
      have hI : t1 = 0 ∧ PsInv n l1 (n - j) q rest 0 := by
        rcases hI with h | ⟨_, h, _⟩
        · exact h
        · omega
      obtain ⟨i, hi'⟩ : ∃ i, n - j = i + 1 := ⟨n - j - 1, by omega⟩
      have e0 : n - (j + 1) = i := by omega
      rw [hi'] at hI
      have cp := xpid_tot b ⟨rest, 0⟩ wr ⟨A1, c1, hR⟩
      have hst : PsInv n l1 i (q ++ [(pidQ ⟨rest, 0⟩).1]) (pidQ ⟨rest, 0⟩).2.l (pidQ ⟨rest, 0⟩).2.t := by
        unfold pidQ
        rw [if_pos rfl]
        by_cases hp : (pidG rest).2.2.2 = 0
        · rw [if_pos hp]; exact hI.2.step hp
        · rw [if_neg hp]; exact hI.2.bad hp
      generalize pidQ ⟨rest, 0⟩ = r at *
      obtain ⟨p, s2⟩ := r
      (try dsimp only at cp)
      (try dsimp only at hst)
      have e4 : IntKind.u64.wrap ((j : Int) + 1) = ((j + 1 : Nat) : Int) := by rw [IntKind.wrap_u64]; omega
      have x1 : decide ((j : Int) < (n : Int)) = true := decide_eq_true (by omega)
      have HST := hide (And.intro hI.1 hst)
      have E0 := hide e0
      clear hst hI hi' e0 hR
      go_wp2_with fail
      refine cp.mono ?_
      rintro e w3 ⟨rfl, h3, ht3⟩
      have hO3 := hO.turnLow ht3 hbl
      have hT3 := hT.trans ht3 (Mov.refl _ _)
      have hs3 := hT3.size
      clear cp hO hT ht3 g0 g1 gz0
      go_wp2_with (at_builtin; refine wp_append_e _ rfl (.tmp 30) (.tmp 33) 23 rfl 44 i0 _ 8 Tryz.underlying23 hi hz0 ‹_› hz2 rfl prOk w.heap.size j _ q rfl (hO3.alloc _) (w3.heap.size + 1) _ 1 1 [p] rfl (es_pr w3 p _) (by unfold maxLen; omega) (by omega) 0 _ (Below.refl _ _) (Nat.zero_le _) (by simp; omega) ?_; intro A2 c2 w4 r1 r2 r3 r4; refine Hid.out ?_)
      have r5 : (w3.alloc (.cells #[.int .u16 p.i, .int .u32 p.k] 44)).grownBy w4 (Value.slice A' j c').ownBlock := r4
      have r6 : OwnP w4 w.heap.size (.slice A2 (j + 1) c2) (j + 1) (q ++ [p]) := r1
      have hT4 := (hT3.alloc (.cells #[.int .u16 p.i, .int .u32 p.k] 44)).grownNew r5 (fun g hg => (hO3.lt g hg).1)
      have h3a : RfAt (w3.alloc (.cells #[.int .u16 p.i, .int .u32 p.k] 44)) b s2.l s2.t := by obtain ⟨A9, c9, h9⟩ := h3; exact ⟨A9, c9, h9.alloc _⟩
      have hR4 := h3a.grown r5 (fun g hg => by have := (hO3.lt g hg).1; omega)
      have hI4 : (t1 = 0 ∧ PsInv n l1 (n - (j + 1)) (q ++ [p]) s2.l s2.t) ∨ (t1 ≠ 0 ∧ n = 0 ∧ s2.t = t1) := .inl ⟨HST.out.1, by rw [E0.out]; exact HST.out.2⟩
      have HR := hide (And.intro r6 (And.intro hR4 (And.intro hT4 hI4)))
      refine Lib.hid ?_
      clear r1 r2 r3 r4 r5 r6 hT4 hR4 hO3 hT3 h3 HST hI4 h3a
      go_wp2_with fail
      go_roundw
      case rel => exact ⟨j + 1, A2, c2, q ++ [p], s2.l, s2.t, by omega, by go_num, rfl, HR.out⟩
      case measure => simp [intOf]; omega
    · have hbk := h.back hR hT
      have hlq := OwnE.len prOk hO
      by_cases htz : t' = 0
      · subst htz
        have hjn : j = n := by omega
        subst hjn
        have hI : t1 = 0 ∧ PsInv j l1 (j - j) q rest 0 := by
          rcases hI with h | ⟨h, _, h2⟩
          · exact h
          · exact absurd h2.symm h
        rw [Nat.sub_self] at hI
        obtain ⟨d1, d2, d3⟩ := hI.2.done
        have hw : PidsF w b RES (.returned (.slice A' j c')) wr := by
          rw [HEQ.out]
          first | rw [if_pos hI.1] | skip
          rw [if_pos d3, d1, d2]
          subst hlq
          exact ⟨A', c', rfl, hO, ⟨A1, c1, hR⟩, hT⟩
        have HW := hide hw
        have x1 : decide ((j : Int) < (j : Int)) = false := decide_eq_false (by omega)
        have x2 : ¬ j < j := by omega
        clear hw hO hR hT hI d1 d2 d3 hlq hbk hjt
        go_wp2
        go_ret
        exact HW.out
      · have hw : PidsF w b RES (.returned (.slice none 0 0)) (wr.setCell ⟨b, 0, none⟩ (.slice A l.length c)) := by
          rw [HEQ.out]
          rcases hI with ⟨e, hI⟩ | ⟨e, _, e2⟩
          · have d := hI.out htz
            rw [if_pos e, if_neg (by rw [d]; exact htz), d]
            exact ⟨none, 0, rfl, OwnE.nil_ _ _, hbk.at_, hT.set_ rfl _⟩
          · rw [if_neg e, ← e2]
            exact ⟨none, 0, rfl, OwnE.nil_ _ _, hbk.at_, hT.set_ rfl _⟩
        have HW := hide hw
        have x2 : ((t' : Int) == 0) = false := by rw [beq_eq_false_iff_ne]; omega
        have x3 : ((t' : Int) != 0) = true := by simp only [bne_iff_ne, ne_eq]; omega
        have x4 : ¬ ((t' : Int) = 0) := by omega
        by_cases hjl : j < n
        · have x1 : decide ((j : Int) < (n : Int)) = true := decide_eq_true (by omega)
          clear hw hO hR hT hI hlq hbk hjt htz
          go_wp2
          go_ret
          exact HW.out
        · have x1 : decide ((j : Int) < (n : Int)) = false := decide_eq_false (by omega)
          clear hw hO hR hT hI hlq hbk hjt htz
          go_wp2
          go_ret
          exact HW.out
end Go.Proofs.YtjmkecaljkcoiaaGreatDoor
namespace Go.Proofs.YtjmkecaljkcoiaaGreatDoor
open Go.RowKit Go.Maps
set_option linter.unusedVariables false
set_option linter.unusedSimpArgs false
def SomF (w : World) (b : Nat) (r : List Pr × RS) (e : Ending) (w' : World) : Prop :=
  ∃ A c q, e = .returned (.slice A (List.length q) c) ∧ OwnP w' w.heap.size (.slice A (List.length q) c) q.length q ∧ q.length ≤ 24 ∧ RfAt w' b r.2.l r.2.t ∧ Turn w w' b none ∧ (r.2.t = 0 → q = r.1)
set_option maxRecDepth 100000 in
set_option maxHeartbeats 4000000 in
theorem xsome_tot (b n c : Nat) (A : Option Addr) (mem : List Pr) (s : RS) (w : World) (h : RfAt w b s.l s.t) (hM : ∀ W, Turn w W b none → Es prC W W.heap.size A n mem) (hn : n ≤ 40) :
    Calls Tryz.prog 118 #[.pointer (some ⟨b, 0, none⟩), .slice A n c] w (SomF w b (someS mem s)) := by
  obtain ⟨i0, hi, hz0, hz1, hz2⟩ := info_parts info_pid
  have hmn := (hM w (Turn.refl _ _ _)).len
  have hlt := h.lt
  have cn : Calls Tryz.prog 53 #[.pointer (some ⟨b, 0, none⟩), .int .u64 24] w (ReadsF w b (.int .u64 ((numS 24 s).1 : Nat)) (numS 24 s).2.l (numS 24 s).2.t) := xnum_tot b 24 s w h (by decide)
  have hle := numS_le 24 s
  have hz := @numS_zero 24 s
  have hS : someS mem s = if (numS 24 s).1 = 0 then ([], (numS 24 s).2) else if mem = [] then ([], ⟨(numS 24 s).2.l, 3⟩) else somR mem (numS 24 s).1 (numS 24 s).2 := rfl
  generalize someS mem s = RES at *
  obtain ⟨N, hN⟩ : ∃ N, N = (numS 24 s).1 := ⟨_, rfl⟩
  obtain ⟨s1, hs1⟩ : ∃ s1, s1 = (numS 24 s).2 := ⟨_, rfl⟩
  rw [← hN, ← hs1] at cn
  rw [← hN, ← hs1] at hS
  rw [← hN] at hle
  rw [← hN, ← hs1] at hz
  clear hN hs1 h
  have HM := hide hM
  have HS := hide hS
  have HZ := hide hz
  clear hM hS hz
  go_enter Tryz.func118, Tryz.ntmps118
  go_wp2_with fail
  refine cn.mono ?_
  rintro e w2 ⟨rfl, h2, ht2⟩
  clear cn
  by_cases hm0 : n = 0
  · subst hm0
    have hme : mem = [] := List.eq_nil_of_length_eq_zero hmn
    by_cases hN0 : N = 0
    · subst hN0
      have hw : SomF w b RES (.returned (.slice none 0 0)) w2 := ⟨none, 0, [], rfl, OwnE.nil_ _ _, Nat.zero_le _, by rw [HS.out, if_pos rfl]; exact h2, ht2, fun _ => by rw [HS.out, if_pos rfl]⟩
      have HW := hide hw
      clear hw h2 ht2 hme
      go_wp2
      go_loopw [6, 7] (fun v i wr => v = .slice none 0 0 ∧ i = .int .u64 ((0 : Nat) : Int) ∧ wr = w2) (fun _ i _ => 0)
      case atStart => exact ⟨rfl, rfl, rfl⟩
      case round =>
        obtain ⟨rfl, rfl, rfl⟩ := hrel
        go_wp2
        go_ret
        exact HW.out
    · have ht0 : s1.t = 0 := by
        by_cases e : s1.t = 0
        · exact e
        · exact absurd (HZ.out e) hN0
      rw [ht0] at h2
      obtain ⟨A3, c3, h3⟩ := h2
      obtain ⟨g0, g1⟩ := h3.cells
      have gz1 := h3.frozen 1
      have x1 : decide ((0 : Int) < (N : Int)) = true := decide_eq_true (by omega)
      have x2 : 0 < N := by omega
      have HN := hide hN0
      clear hN0 ht0
      go_wp2
      go_loopw [6, 7] (fun v i wr => v = .slice none 0 0 ∧ i = .int .u64 ((0 : Nat) : Int) ∧ wr = w2) (fun _ i _ => 0)
      case atStart => exact ⟨rfl, rfl, rfl⟩
      case round =>
        obtain ⟨rfl, rfl, rfl⟩ := hrel
        have hw : SomF w b RES (.returned (.slice none 0 0)) (wr.setCell ⟨b, 1, none⟩ (.int .i64 3)) := ⟨none, 0, [], rfl, OwnE.nil_ _ _, Nat.zero_le _, by rw [HS.out, if_neg HN.out, if_pos hme]; exact (h3.set1 3).at_, ht2.set_ rfl _, fun _ => by rw [HS.out, if_neg HN.out, if_pos hme]⟩
        have HW := hide hw
        clear hw h3 ht2 hme
        go_wp2
        go_ret
        exact HW.out
  have hme : mem ≠ [] := fun e => hm0 (by rw [← hmn, e]; rfl)
  have I0 := SomInv.start mem N s1 HZ.out
  go_wp2
  go_loopw [6, 7] (fun v i wr => ∃ (j : Nat) (A' : Option Addr) (c' : Nat) (q : List Pr) (s' : RS), j ≤ N ∧ i = .int .u64 j ∧ v = .slice A' j c' ∧ OwnP wr w.heap.size (.slice A' j c') j q ∧ RfAt wr b s'.l s'.t ∧ Turn w wr b none ∧ SomInv mem N s1 (N - j) q s') (fun _ i _ => N - (intOf i).toNat)
  case atStart => exact ⟨0, none, 0, [], s1, Nat.zero_le _, rfl, rfl, OwnE.nil_ _ _, h2, ht2, I0⟩
  case round =>
    clear h2 ht2 I0
    obtain ⟨j, A', c', q, s', hj, rfl, rfl, hO, ⟨A1, c1', hR0⟩, hT, hI⟩ := hrel
    have hR : RfAt wr b s'.l s'.t := ⟨A1, c1', hR0⟩
    obtain ⟨g0, g1⟩ := hR0.cells
    have hsz := hT.size
    by_cases hjt : j < N ∧ s'.t = 0
    · obtain ⟨hjl, hst0⟩ := hjt
      rw [hst0] at g1
      obtain ⟨m, hm⟩ : ∃ m, n = m + 1 := ⟨n - 1, by omega⟩
      obtain ⟨i, hi'⟩ : ∃ i, N - j = i + 1 := ⟨N - j - 1, by omega⟩
      have e0 : N - (j + 1) = i := by omega
      rw [hi'] at hI
      have hst := hI.step
      rw [hmn, hm, Nat.add_sub_cancel] at hst
      have cp := xnum_tot b m s' wr hR (by omega)
      have hk := numS_le m s'
      obtain ⟨k, hke⟩ : ∃ k, k = (numS m s').1 := ⟨_, rfl⟩
      obtain ⟨s2, hs2⟩ : ∃ s2, s2 = (numS m s').2 := ⟨_, rfl⟩
      rw [← hke, ← hs2] at cp
      rw [← hke, ← hs2] at hst
      rw [← hke] at hk
      have e1 : ((n : Int) == 0) = false := by simp only [beq_eq_false_iff_ne, ne_eq]; omega
      have e2 : IntKind.u64.wrap ((n : Int) - 1) = (m : Int) := by rw [IntKind.wrap_u64]; omega
      have e3 : IntKind.u64.wrap (n : Int) = (n : Int) := by rw [IntKind.wrap_u64]; omega
      have y1 : decide ((j : Int) < (N : Int)) = true := decide_eq_true (by omega)
      have e4 : IntKind.u64.wrap ((j : Int) + 1) = ((j + 1 : Nat) : Int) := by rw [IntKind.wrap_u64]; omega
      have x1 : (0 : Int) ≤ (k : Int) := by omega
      have x2 : (k : Int) < (n : Int) := by omega
      have x3 : k < n := by omega
      have HST := hide hst
      have E0 := hide e0
      clear hst hke hR hR0 hm hI hi' hs2 e0 hme hst0
      go_wp2_with fail
      refine cp.mono ?_
      rintro e w3 ⟨rfl, h3, ht3⟩
      have hO3 := hO.turnLow ht3 hlt
      have hT3 := hT.trans ht3 (Mov.refl _ _)
      have hs3 := hT3.size
      obtain ⟨ad, hl2, rfl, hbl, hc⟩ := (HM.out w3 hT3).at_ prOk x3
      obtain ⟨p, hp⟩ : ∃ p, p = mem[k] := ⟨_, rfl⟩
      have hpd : mem.getD k default = p := by rw [List.getD_eq_getElem?_getD, List.getElem?_eq_getElem hl2, hp]; rfl
      rw [← hp] at hc
      obtain ⟨c0, c1⟩ := pr_at hc
      have HP := hide hpd
      clear cp hO hT hc hbl ht3 hp hpd g0 g1
      go_wp2_with (at_builtin; refine wp_append_e _ rfl (.tmp 35) (.tmp 40) 23 rfl 44 i0 _ 8 Tryz.underlying23 hi hz0 ‹_› hz2 rfl prOk w.heap.size j _ q rfl (hO3.alloc _) (w3.heap.size + 1) _ 1 1 [p] rfl (es_pr w3 p _) (by unfold maxLen; omega) (by omega) 0 _ (Below.refl _ _) (Nat.zero_le _) (by simp; omega) ?_; intro A2 c2 w4 r1 r2 r3 r4; refine Hid.out ?_)
      have r5 : (w3.alloc (.cells #[.int .u16 p.i, .int .u32 p.k] 44)).grownBy w4 (Value.slice A' j c').ownBlock := r4
      have r6 : OwnP w4 w.heap.size (.slice A2 (j + 1) c2) (j + 1) (q ++ [p]) := r1
      have hT4 := (hT3.alloc (.cells #[.int .u16 p.i, .int .u32 p.k] 44)).grownNew r5 (fun g hg => (hO3.lt g hg).1)
      have h3a : RfAt (w3.alloc (.cells #[.int .u16 p.i, .int .u32 p.k] 44)) b s2.l s2.t := by obtain ⟨A9, c9, h9⟩ := h3; exact ⟨A9, c9, h9.alloc _⟩
      have hR4 := h3a.grown r5 (fun g hg => by have := (hO3.lt g hg).1; omega)
      have hI4 : SomInv mem N s1 (N - (j + 1)) (q ++ [p]) s2 := by have := HST.out; rw [HP.out] at this; rw [E0.out]; exact this
      have HR := hide (And.intro r6 (And.intro hR4 (And.intro hT4 hI4)))
      refine Lib.hid ?_
      clear r1 r2 r3 r4 r5 r6 hT4 hR4 hO3 hT3 h3 HST HP c0 c1 hI4 h3a
      go_wp2_with fail
      go_roundw
      case rel => exact ⟨j + 1, A2, c2, q ++ [p], s2, by omega, by go_num, rfl, HR.out⟩
      case measure => simp [intOf]; omega
    · by_cases hjl : j < N
      · have htn : s'.t ≠ 0 := fun e => hjt ⟨hjl, e⟩
        have hlq := OwnE.len prOk hO
        have hw : SomF w b RES (.returned (.slice A' j c')) wr := by
          have e5 : RES = somR mem N s1 := by rw [HS.out, if_neg (by omega), if_neg hme]
          have e6 : (somR mem N s1).2 = s' := by
            rcases hI with ⟨e, _⟩ | ⟨_, e⟩
            · exact absurd e htn
            · exact e
          subst hlq
          exact ⟨A', c', q, rfl, hO, by omega, by rw [e5, e6]; exact hR, hT, fun e => by rw [e5, e6] at e; exact absurd e htn⟩
        have HW := hide hw
        have y1 : decide ((j : Int) < (N : Int)) = true := decide_eq_true (by omega)
        have y2 : ((s'.t : Int) == 0) = false := by rw [beq_eq_false_iff_ne]; omega
        have y3 : ¬ ((s'.t : Int) = 0) := by omega
        clear hw hO hR hR0 hT hI hlq hjt htn
        go_wp2
        go_ret
        exact HW.out
      have hjj : j = N := by omega
      subst hjj
      rw [Nat.sub_self] at hI
      obtain ⟨d1, d2⟩ := hI.done
      have hlq := OwnE.len prOk hO
      have hw : SomF w b RES (.returned (.slice A' j c')) wr := by
        by_cases hN0 : j = 0
        · subst hN0
          have hq : q = [] := List.eq_nil_of_length_eq_zero hlq
          subst hq
          have e5 : s' = s1 := by rw [← d1]; rfl
          rw [e5] at hR
          exact ⟨A', c', [], rfl, hO, Nat.zero_le _, by rw [HS.out, if_pos rfl]; exact hR, hT, fun _ => by rw [HS.out, if_pos rfl]⟩
        · have e5 : RES = somR mem j s1 := by rw [HS.out, if_neg hN0, if_neg hme]
          subst hlq
          exact ⟨A', c', q, rfl, hO, hle, by rw [e5, d1]; exact hR, hT, fun e => by rw [e5] at e ⊢; rw [d1] at e; exact d2 e⟩
      have HW := hide hw
      have y1 : decide ((j : Int) < (j : Int)) = false := decide_eq_false (by omega)
      have y2 : ¬ j < j := by omega
      clear hw hO hR hR0 hT hI d1 d2 hlq hjt hjl
      go_wp2
      go_ret
      exact HW.out
end Go.Proofs.YtjmkecaljkcoiaaGreatDoor
