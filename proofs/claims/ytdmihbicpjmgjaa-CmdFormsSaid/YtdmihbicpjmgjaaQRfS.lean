/-
  Layer 8: getSome, of any bytes.
-/
import Derived.Test.YtdmihbicpjmgjaaQRdT
import Derived.Test.YtdmihbicpjmgjaaQViewS
namespace Go.Proofs.Ytdmihbicpjmgjaa
open Go.RowKit Go.Maps
set_option linter.unusedVariables false
set_option linter.unusedSimpArgs false

/-- n ranks are still to come behind acc. -/
def SomInv (mem : List Pr) (N : Nat) (s0 : RS) (n : Nat) (acc : List Pr) (s : RS) : Prop :=
  (s.t = 0 ∧ somR mem N s0 = (acc ++ (somR mem n s).1, (somR mem n s).2)) ∨ (s.t ≠ 0 ∧ (somR mem N s0).2 = s)
theorem SomInv.start (mem : List Pr) (N : Nat) (s0 : RS) (h : s0.t ≠ 0 → N = 0) : SomInv mem N s0 N [] s0 := by
  by_cases h0 : s0.t = 0
  · exact .inl ⟨h0, rfl⟩
  · obtain rfl := h h0
    exact .inr ⟨h0, rfl⟩
theorem SomInv.step {mem : List Pr} {N n : Nat} {s0 s : RS} {acc : List Pr} (h : SomInv mem N s0 (n + 1) acc s) : SomInv mem N s0 n (acc ++ [mem.getD (numS (mem.length - 1) s).1 default]) (numS (mem.length - 1) s).2 := by
  rcases h with ⟨h0, h1⟩ | ⟨h0, h1⟩
  · rw [somR] at h1
    by_cases hr : (numS (mem.length - 1) s).2.t = 0
    · rw [if_pos hr] at h1
      exact .inl ⟨hr, by rw [h1]; simp⟩
    · rw [if_neg hr] at h1
      exact .inr ⟨hr, by rw [h1]⟩
  · rw [numS_stop h0]
    exact .inr ⟨h0, h1⟩
theorem SomInv.done {mem : List Pr} {N : Nat} {s0 s : RS} {acc : List Pr} (h : SomInv mem N s0 0 acc s) : (somR mem N s0).2 = s ∧ (s.t = 0 → acc = (somR mem N s0).1) := by
  rcases h with ⟨h0, h1⟩ | ⟨h0, h1⟩
  · rw [h1]
    simp [somR]
  · exact ⟨h1, fun e => absurd e h0⟩
/-- What getSome answers: what it should, if nothing stopped it. -/
def SomT (w : World) (b : Nat) (r : List Pr × RS) (e : Ending) (w' : World) : Prop :=
  ∃ A c q, e = .returned (.slice A (List.length q) c) ∧ OwnP w' w.heap.size (.slice A (List.length q) c) q.length q ∧ q.length ≤ 24 ∧ RdAt w' b r.2.l r.2.t ∧ Turn w w' b none ∧ (r.2.t = 0 → q = r.1)
set_option maxRecDepth 100000 in
set_option maxHeartbeats 4000000 in
theorem getsome_tot (b n c : Nat) (A : Option Addr) (mem : List Pr) (s : RS) (w : World) (h : RdAt w b s.l s.t) (hM : ∀ W, Turn w W b none → Es prC W W.heap.size A n mem) (hn : n ≤ 40) :
    Calls Try.prog 72 #[.pointer (some ⟨b, 0, none⟩), .slice A n c] w (SomT w b (someS mem s)) := by
  obtain ⟨i0, hi, hz0, hz1, hz2⟩ := info_parts info_pid
  have hmn := (hM w (Turn.refl _ _ _)).len
  have hlt := h.lt
  have cn : Calls Try.prog 36 #[.pointer (some ⟨b, 0, none⟩), .int .u64 24] w (ReadsP w b (.int .u64 ((numS 24 s).1 : Nat)) (numS 24 s).2.l (numS 24 s).2.t) := rdnum_tot b 24 s w h (by decide)
  have hle := numS_le 24 s
  have hz := @numS_zero 24 s
  have hS : someS mem s = if (numS 24 s).1 = 0 then ([], (numS 24 s).2) else if mem = [] then ([], ⟨(numS 24 s).2.l, 3⟩) else somR mem (numS 24 s).1 (numS 24 s).2 := rfl
  generalize someS mem s = RES at *
  obtain ⟨N, hN⟩ : ∃ N, N = (numS 24 s).1 := ⟨_, rfl⟩
  obtain ⟨s1, hs1⟩ : ∃ s1, s1 = (numS 24 s).2 := ⟨_, rfl⟩
  rw [← hN, ← hs1] at cn
  rw [← hN, ← hs1] at hS
  rw [← hN] at hle
  rw [← hN, ← hs1] at hz
  clear hN hs1 h
  have HM := hide hM
  have HS := hide hS
  have HZ := hide hz
  clear hM hS hz
  go_enter Try.func72, Try.ntmps72
  go_wp2_with fail
  refine cn.mono ?_
  rintro e w2 ⟨rfl, h2, ht2⟩
  clear cn
  by_cases hm0 : n = 0
  · subst hm0
    have hme : mem = [] := List.eq_nil_of_length_eq_zero hmn
    by_cases hN0 : N = 0
    · subst hN0
      have hw : SomT w b RES (.returned (.slice none 0 0)) w2 := ⟨none, 0, [], rfl, OwnE.nil_ _ _, Nat.zero_le _, by rw [HS.out, if_pos rfl]; exact h2, ht2, fun _ => by rw [HS.out, if_pos rfl]⟩
      have HW := hide hw
      clear hw h2 ht2 hme
      go_wp2
      go_loopw [5, 8] (fun v i wr => v = .slice none 0 0 ∧ i = .int .u64 ((0 : Nat) : Int) ∧ wr = w2) (fun _ i _ => 0)
      case atStart => exact ⟨rfl, rfl, rfl⟩
      case round =>
        obtain ⟨rfl, rfl, rfl⟩ := hrel
        go_wp2
        go_ret
        exact HW.out
    · have ht0 : s1.t = 0 := by
        by_cases e : s1.t = 0
        · exact e
        · exact absurd (HZ.out e) hN0
      rw [ht0] at h2
      have cs : Calls Try.prog 40 #[.pointer (some ⟨b, 0, none⟩), .int .i64 3] w2 (ReadsP w2 b (.tuple #[]) s1.l 3) := stop_first b s1.l 3 w2 h2
      have x1 : decide ((0 : Int) < (N : Int)) = true := decide_eq_true (by omega)
      have x2 : 0 < N := by omega
      have HN := hide hN0
      clear hN0 ht0
      go_wp2
      go_loopw [5, 8] (fun v i wr => v = .slice none 0 0 ∧ i = .int .u64 ((0 : Nat) : Int) ∧ wr = w2) (fun _ i _ => 0)
      case atStart => exact ⟨rfl, rfl, rfl⟩
      case round =>
        obtain ⟨rfl, rfl, rfl⟩ := hrel
        go_wp2_with fail
        refine cs.mono ?_
        rintro e w3 ⟨rfl, h3, ht3⟩
        have hw : SomT w b RES (.returned (.slice none 0 0)) w3 := ⟨none, 0, [], rfl, OwnE.nil_ _ _, Nat.zero_le _, by rw [HS.out, if_neg HN.out, if_pos hme]; exact h3, ht2.trans ht3 (Mov.refl _ _), fun _ => by rw [HS.out, if_neg HN.out, if_pos hme]⟩
        have HW := hide hw
        clear hw h3 ht3 cs hme
        go_wp2
        go_ret
        exact HW.out
  have hme : mem ≠ [] := fun e => hm0 (by rw [← hmn, e]; rfl)
  have I0 := SomInv.start mem N s1 HZ.out
  go_wp2
  go_loopw [5, 8] (fun v i wr => ∃ (j : Nat) (A' : Option Addr) (c' : Nat) (q : List Pr) (s' : RS), j ≤ N ∧ i = .int .u64 j ∧ v = .slice A' j c' ∧ OwnP wr w.heap.size (.slice A' j c') j q ∧ RdAt wr b s'.l s'.t ∧ Turn w wr b none ∧ SomInv mem N s1 (N - j) q s') (fun _ i _ => N - (intOf i).toNat)
  case atStart => exact ⟨0, none, 0, [], s1, Nat.zero_le _, rfl, rfl, OwnE.nil_ _ _, h2, ht2, I0⟩
  case round =>
    clear h2 ht2 I0
    obtain ⟨j, A', c', q, s', hj, rfl, rfl, hO, hR, hT, hI⟩ := hrel
    have hsz := hT.size
    by_cases hjl : j < N
    · obtain ⟨m, hm⟩ : ∃ m, n = m + 1 := ⟨n - 1, by omega⟩
      obtain ⟨i, hi'⟩ : ∃ i, N - j = i + 1 := ⟨N - j - 1, by omega⟩
      have e0 : N - (j + 1) = i := by omega
      rw [hi'] at hI
      have hst := hI.step
      rw [hmn, hm, Nat.add_sub_cancel] at hst
      have cp := rdnum_tot b m s' wr hR (by omega)
      have hk := numS_le m s'
      obtain ⟨k, hke⟩ : ∃ k, k = (numS m s').1 := ⟨_, rfl⟩
      obtain ⟨s2, hs2⟩ : ∃ s2, s2 = (numS m s').2 := ⟨_, rfl⟩
      rw [← hke, ← hs2] at cp
      rw [← hke, ← hs2] at hst
      rw [← hke] at hk
      have e1 : ((n : Int) == 0) = false := by simp only [beq_eq_false_iff_ne, ne_eq]; omega
      have e2 : (n : Int) - 1 = (m : Int) := by omega
      have e3 : IntKind.u64.wrap (m : Int) = (m : Int) := by rw [IntKind.wrap_u64]; omega
      have e4 : IntKind.u64.wrap ((j : Int) + 1) = ((j + 1 : Nat) : Int) := by rw [IntKind.wrap_u64]; omega
      have x1 : (0 : Int) ≤ (k : Int) := by omega
      have x2 : (k : Int) < (n : Int) := by omega
      have x3 : k < n := by omega
      have HST := hide hst
      have E0 := hide e0
      clear hst hke hR hm hI hi' hs2 e0 hme
      go_wp2_with fail
      refine cp.mono ?_
      rintro e w3 ⟨rfl, h3, ht3⟩
      have hO3 := hO.turnLow ht3 hlt
      have hT3 := hT.trans ht3 (Mov.refl _ _)
      have hs3 := hT3.size
      obtain ⟨ad, hl2, rfl, hbl, hc⟩ := (HM.out w3 hT3).at_ prOk x3
      obtain ⟨p, hp⟩ : ∃ p, p = mem[k] := ⟨_, rfl⟩
      have hpd : mem.getD k default = p := by rw [List.getD_eq_getElem?_getD, List.getElem?_eq_getElem hl2, hp]; rfl
      rw [← hp] at hc
      obtain ⟨c0, c1⟩ := pr_at hc
      have HP := hide hpd
      clear cp hO hT hc hbl ht3 hp hpd
      go_wp2_with (at_builtin; refine wp_append_e _ rfl (.tmp 15) (.tmp 25) 28 rfl 25 i0 _ 8 Try.underlying28 hi hz0 ‹_› hz2 rfl prOk w.heap.size j _ q rfl (hO3.alloc _) (w3.heap.size + 1) _ 1 1 [p] rfl (es_pr w3 p _) (by unfold maxLen; omega) (by omega) 0 _ (Below.refl _ _) (Nat.zero_le _) (by simp; omega) ?_; intro A2 c2 w4 r1 r2 r3 r4; refine Hid.out ?_)
      have r5 : (w3.alloc (.cells #[.int .u16 (p.i : Int), .int .u32 (p.k : Int)] 25)).grownBy w4 (Value.slice A' j c').ownBlock := r4
      have r6 : OwnP w4 w.heap.size (.slice A2 (j + 1) c2) (j + 1) (q ++ [p]) := r1
      have hT4 := (hT3.alloc (.cells #[.int .u16 (p.i : Int), .int .u32 (p.k : Int)] 25)).grownNew r5 (fun g hg => (hO3.lt g hg).1)
      have hR4 := (h3.alloc (.cells #[.int .u16 (p.i : Int), .int .u32 (p.k : Int)] 25)).grown r5 (fun g hg => by have := (hO3.lt g hg).1; omega)
      have hI4 : SomInv mem N s1 (N - (j + 1)) (q ++ [p]) s2 := by have := HST.out; rw [HP.out] at this; rw [E0.out]; exact this
      have HR := hide (And.intro r6 (And.intro hR4 (And.intro hT4 hI4)))
      refine Lib.hid ?_
      clear r1 r2 r3 r4 r5 r6 hT4 hR4 hO3 hT3 h3 HST HP c0 c1 hI4
      go_wp2_with fail
      go_roundw
      case rel => exact ⟨j + 1, A2, c2, q ++ [p], s2, by omega, by go_num, rfl, HR.out⟩
      case measure => simp [intOf]; omega
    · have hjj : j = N := by omega
      subst hjj
      rw [Nat.sub_self] at hI
      obtain ⟨d1, d2⟩ := hI.done
      have hlq := OwnE.len prOk hO
      have hw : SomT w b RES (.returned (.slice A' j c')) wr := by
        by_cases hN0 : j = 0
        · subst hN0
          have hq : q = [] := List.eq_nil_of_length_eq_zero hlq
          subst hq
          have e5 : s' = s1 := by rw [← d1]; rfl
          rw [e5] at hR
          exact ⟨A', c', [], rfl, hO, Nat.zero_le _, by rw [HS.out, if_pos rfl]; exact hR, hT, fun _ => by rw [HS.out, if_pos rfl]⟩
        · have e5 : RES = somR mem j s1 := by rw [HS.out, if_neg hN0, if_neg hme]
          subst hlq
          exact ⟨A', c', q, rfl, hO, hle, by rw [e5, d1]; exact hR, hT, fun e => by rw [e5] at e ⊢; rw [d1] at e; exact d2 e⟩
      have HW := hide hw
      clear hw hO hR hT hI d1 d2 hlq
      go_wp2
      go_ret
      exact HW.out
end Go.Proofs.Ytdmihbicpjmgjaa
namespace Go.Proofs.Ytdmihbicpjmgjaa
open Go.RowKit Go.Maps
set_option linter.unusedVariables false
set_option linter.unusedSimpArgs false

/-- What the document's answers: what it should, if nothing stopped it. -/
def SomF (w : World) (b : Nat) (r : List Pr × RS) (e : Ending) (w' : World) : Prop :=
  ∃ A c q, e = .returned (.slice A (List.length q) c) ∧ OwnP w' w.heap.size (.slice A (List.length q) c) q.length q ∧ q.length ≤ 24 ∧ RfAt w' b r.2.l r.2.t ∧ Turn w w' b none ∧ (r.2.t = 0 → q = r.1)
set_option maxRecDepth 100000 in
set_option maxHeartbeats 4000000 in
theorem xsome_tot (b n c : Nat) (A : Option Addr) (mem : List Pr) (s : RS) (w : World) (h : RfAt w b s.l s.t) (hM : ∀ W, Turn w W b none → Es prC W W.heap.size A n mem) (hn : n ≤ 40) :
    Calls Try.prog 76 #[.pointer (some ⟨b, 0, none⟩), .slice A n c] w (SomF w b (someS mem s)) := by
  obtain ⟨i0, hi, hz0, hz1, hz2⟩ := info_parts info_pid
  have hmn := (hM w (Turn.refl _ _ _)).len
  have hlt := h.lt
  have cn : Calls Try.prog 41 #[.pointer (some ⟨b, 0, none⟩), .int .u64 24] w (ReadsF w b (.int .u64 ((numS 24 s).1 : Nat)) (numS 24 s).2.l (numS 24 s).2.t) := xnum_tot b 24 s w h (by decide)
  have hle := numS_le 24 s
  have hz := @numS_zero 24 s
  have hS : someS mem s = if (numS 24 s).1 = 0 then ([], (numS 24 s).2) else if mem = [] then ([], ⟨(numS 24 s).2.l, 3⟩) else somR mem (numS 24 s).1 (numS 24 s).2 := rfl
  generalize someS mem s = RES at *
  obtain ⟨N, hN⟩ : ∃ N, N = (numS 24 s).1 := ⟨_, rfl⟩
  obtain ⟨s1, hs1⟩ : ∃ s1, s1 = (numS 24 s).2 := ⟨_, rfl⟩
  rw [← hN, ← hs1] at cn
  rw [← hN, ← hs1] at hS
  rw [← hN] at hle
  rw [← hN, ← hs1] at hz
  clear hN hs1 h
  have HM := hide hM
  have HS := hide hS
  have HZ := hide hz
  clear hM hS hz
  go_enter Try.func76, Try.ntmps76
  go_wp2_with fail
  refine cn.mono ?_
  rintro e w2 ⟨rfl, h2, ht2⟩
  clear cn
  by_cases hm0 : n = 0
  · subst hm0
    have hme : mem = [] := List.eq_nil_of_length_eq_zero hmn
    by_cases hN0 : N = 0
    · subst hN0
      have hw : SomF w b RES (.returned (.slice none 0 0)) w2 := ⟨none, 0, [], rfl, OwnE.nil_ _ _, Nat.zero_le _, by rw [HS.out, if_pos rfl]; exact h2, ht2, fun _ => by rw [HS.out, if_pos rfl]⟩
      have HW := hide hw
      clear hw h2 ht2 hme
      go_wp2
      go_loopw [6, 7] (fun v i wr => v = .slice none 0 0 ∧ i = .int .u64 ((0 : Nat) : Int) ∧ wr = w2) (fun _ i _ => 0)
      case atStart => exact ⟨rfl, rfl, rfl⟩
      case round =>
        obtain ⟨rfl, rfl, rfl⟩ := hrel
        go_wp2
        go_ret
        exact HW.out
    · have ht0 : s1.t = 0 := by
        by_cases e : s1.t = 0
        · exact e
        · exact absurd (HZ.out e) hN0
      rw [ht0] at h2
      obtain ⟨A3, c3, h3⟩ := h2
      obtain ⟨g0, g1⟩ := h3.cells
      have gz1 := h3.frozen 1
      have x1 : decide ((0 : Int) < (N : Int)) = true := decide_eq_true (by omega)
      have x2 : 0 < N := by omega
      have HN := hide hN0
      clear hN0 ht0
      go_wp2
      go_loopw [6, 7] (fun v i wr => v = .slice none 0 0 ∧ i = .int .u64 ((0 : Nat) : Int) ∧ wr = w2) (fun _ i _ => 0)
      case atStart => exact ⟨rfl, rfl, rfl⟩
      case round =>
        obtain ⟨rfl, rfl, rfl⟩ := hrel
        have hw : SomF w b RES (.returned (.slice none 0 0)) (wr.setCell ⟨b, 1, none⟩ (.int .i64 3)) := ⟨none, 0, [], rfl, OwnE.nil_ _ _, Nat.zero_le _, by rw [HS.out, if_neg HN.out, if_pos hme]; exact (h3.set1 3).at_, ht2.set_ rfl _, fun _ => by rw [HS.out, if_neg HN.out, if_pos hme]⟩
        have HW := hide hw
        clear hw h3 ht2 hme
        go_wp2
        go_ret
        exact HW.out
  have hme : mem ≠ [] := fun e => hm0 (by rw [← hmn, e]; rfl)
  have I0 := SomInv.start mem N s1 HZ.out
  go_wp2
  go_loopw [6, 7] (fun v i wr => ∃ (j : Nat) (A' : Option Addr) (c' : Nat) (q : List Pr) (s' : RS), j ≤ N ∧ i = .int .u64 j ∧ v = .slice A' j c' ∧ OwnP wr w.heap.size (.slice A' j c') j q ∧ RfAt wr b s'.l s'.t ∧ Turn w wr b none ∧ SomInv mem N s1 (N - j) q s') (fun _ i _ => N - (intOf i).toNat)
  case atStart => exact ⟨0, none, 0, [], s1, Nat.zero_le _, rfl, rfl, OwnE.nil_ _ _, h2, ht2, I0⟩
  case round =>
    clear h2 ht2 I0
    obtain ⟨j, A', c', q, s', hj, rfl, rfl, hO, ⟨A1, c1', hR0⟩, hT, hI⟩ := hrel
    have hR : RfAt wr b s'.l s'.t := ⟨A1, c1', hR0⟩
    obtain ⟨g0, g1⟩ := hR0.cells
    have hsz := hT.size
    by_cases hjt : j < N ∧ s'.t = 0
    · obtain ⟨hjl, hst0⟩ := hjt
      rw [hst0] at g1
      obtain ⟨m, hm⟩ : ∃ m, n = m + 1 := ⟨n - 1, by omega⟩
      obtain ⟨i, hi'⟩ : ∃ i, N - j = i + 1 := ⟨N - j - 1, by omega⟩
      have e0 : N - (j + 1) = i := by omega
      rw [hi'] at hI
      have hst := hI.step
      rw [hmn, hm, Nat.add_sub_cancel] at hst
      have cp := xnum_tot b m s' wr hR (by omega)
      have hk := numS_le m s'
      obtain ⟨k, hke⟩ : ∃ k, k = (numS m s').1 := ⟨_, rfl⟩
      obtain ⟨s2, hs2⟩ : ∃ s2, s2 = (numS m s').2 := ⟨_, rfl⟩
      rw [← hke, ← hs2] at cp
      rw [← hke, ← hs2] at hst
      rw [← hke] at hk
      have e1 : ((n : Int) == 0) = false := by simp only [beq_eq_false_iff_ne, ne_eq]; omega
      have e2 : IntKind.u64.wrap ((n : Int) - 1) = (m : Int) := by rw [IntKind.wrap_u64]; omega
      have e3 : IntKind.u64.wrap (n : Int) = (n : Int) := by rw [IntKind.wrap_u64]; omega
      have y1 : decide ((j : Int) < (N : Int)) = true := decide_eq_true (by omega)
      have e4 : IntKind.u64.wrap ((j : Int) + 1) = ((j + 1 : Nat) : Int) := by rw [IntKind.wrap_u64]; omega
      have x1 : (0 : Int) ≤ (k : Int) := by omega
      have x2 : (k : Int) < (n : Int) := by omega
      have x3 : k < n := by omega
      have HST := hide hst
      have E0 := hide e0
      clear hst hke hR hR0 hm hI hi' hs2 e0 hme hst0
      go_wp2_with fail
      refine cp.mono ?_
      rintro e w3 ⟨rfl, h3, ht3⟩
      have hO3 := hO.turnLow ht3 hlt
      have hT3 := hT.trans ht3 (Mov.refl _ _)
      have hs3 := hT3.size
      obtain ⟨ad, hl2, rfl, hbl, hc⟩ := (HM.out w3 hT3).at_ prOk x3
      obtain ⟨p, hp⟩ : ∃ p, p = mem[k] := ⟨_, rfl⟩
      have hpd : mem.getD k default = p := by rw [List.getD_eq_getElem?_getD, List.getElem?_eq_getElem hl2, hp]; rfl
      rw [← hp] at hc
      obtain ⟨c0, c1⟩ := pr_at hc
      have HP := hide hpd
      clear cp hO hT hc hbl ht3 hp hpd g0 g1
      go_wp2_with (at_builtin; refine wp_append_e _ rfl (.tmp 35) (.tmp 40) 28 rfl 25 i0 _ 8 Try.underlying28 hi hz0 ‹_› hz2 rfl prOk w.heap.size j _ q rfl (hO3.alloc _) (w3.heap.size + 1) _ 1 1 [p] rfl (es_pr w3 p _) (by unfold maxLen; omega) (by omega) 0 _ (Below.refl _ _) (Nat.zero_le _) (by simp; omega) ?_; intro A2 c2 w4 r1 r2 r3 r4; refine Hid.out ?_)
      have r5 : (w3.alloc (.cells #[.int .u16 (p.i : Int), .int .u32 (p.k : Int)] 25)).grownBy w4 (Value.slice A' j c').ownBlock := r4
      have r6 : OwnP w4 w.heap.size (.slice A2 (j + 1) c2) (j + 1) (q ++ [p]) := r1
      have hT4 := (hT3.alloc (.cells #[.int .u16 (p.i : Int), .int .u32 (p.k : Int)] 25)).grownNew r5 (fun g hg => (hO3.lt g hg).1)
      have h3a : RfAt (w3.alloc (.cells #[.int .u16 (p.i : Int), .int .u32 (p.k : Int)] 25)) b s2.l s2.t := by obtain ⟨A9, c9, h9⟩ := h3; exact ⟨A9, c9, h9.alloc _⟩
      have hR4 := h3a.grown r5 (fun g hg => by have := (hO3.lt g hg).1; omega)
      have hI4 : SomInv mem N s1 (N - (j + 1)) (q ++ [p]) s2 := by have := HST.out; rw [HP.out] at this; rw [E0.out]; exact this
      have HR := hide (And.intro r6 (And.intro hR4 (And.intro hT4 hI4)))
      refine Lib.hid ?_
      clear r1 r2 r3 r4 r5 r6 hT4 hR4 hO3 hT3 h3 HST HP c0 c1 hI4 h3a
      go_wp2_with fail
      go_roundw
      case rel => exact ⟨j + 1, A2, c2, q ++ [p], s2, by omega, by go_num, rfl, HR.out⟩
      case measure => simp [intOf]; omega
    · by_cases hjl : j < N
      · have htn : s'.t ≠ 0 := fun e => hjt ⟨hjl, e⟩
        have hlq := OwnE.len prOk hO
        have hw : SomF w b RES (.returned (.slice A' j c')) wr := by
          have e5 : RES = somR mem N s1 := by rw [HS.out, if_neg (by omega), if_neg hme]
          have e6 : (somR mem N s1).2 = s' := by
            rcases hI with ⟨e, _⟩ | ⟨_, e⟩
            · exact absurd e htn
            · exact e
          subst hlq
          exact ⟨A', c', q, rfl, hO, by omega, by rw [e5, e6]; exact hR, hT, fun e => by rw [e5, e6] at e; exact absurd e htn⟩
        have HW := hide hw
        have y1 : decide ((j : Int) < (N : Int)) = true := decide_eq_true (by omega)
        have y2 : ((s'.t : Int) == 0) = false := by rw [beq_eq_false_iff_ne]; omega
        have y3 : ¬ ((s'.t : Int) = 0) := by omega
        clear hw hO hR hR0 hT hI hlq hjt htn
        go_wp2
        go_ret
        exact HW.out
      have hjj : j = N := by omega
      subst hjj
      rw [Nat.sub_self] at hI
      obtain ⟨d1, d2⟩ := hI.done
      have hlq := OwnE.len prOk hO
      have hw : SomF w b RES (.returned (.slice A' j c')) wr := by
        by_cases hN0 : j = 0
        · subst hN0
          have hq : q = [] := List.eq_nil_of_length_eq_zero hlq
          subst hq
          have e5 : s' = s1 := by rw [← d1]; rfl
          rw [e5] at hR
          exact ⟨A', c', [], rfl, hO, Nat.zero_le _, by rw [HS.out, if_pos rfl]; exact hR, hT, fun _ => by rw [HS.out, if_pos rfl]⟩
        · have e5 : RES = somR mem j s1 := by rw [HS.out, if_neg hN0, if_neg hme]
          subst hlq
          exact ⟨A', c', q, rfl, hO, hle, by rw [e5, d1]; exact hR, hT, fun e => by rw [e5] at e ⊢; rw [d1] at e; exact d2 e⟩
      have HW := hide hw
      have y1 : decide ((j : Int) < (j : Int)) = false := decide_eq_false (by omega)
      have y2 : ¬ j < j := by omega
      clear hw hO hR hR0 hT hI d1 d2 hlq hjt hjl
      go_wp2
      go_ret
      exact HW.out
end Go.Proofs.Ytdmihbicpjmgjaa
