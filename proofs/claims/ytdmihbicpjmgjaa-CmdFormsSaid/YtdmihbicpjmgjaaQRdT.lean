/-
  The document's Reader: bytes.
-/
import Derived.Test.YtdmihbicpjmgjaaQOpenC
import Derived.Test.YtdmihbicpjmgjaaQCmd6
import Derived.Test.YtdmihbicpjmgjaaQRdS
namespace Go.Proofs.Ytdmihbicpjmgjaa
open Go.RowKit Go.Maps
set_option linter.unusedVariables false
set_option linter.unusedSimpArgs false

theorem numS_left {most : Nat} {s : RS} (h : (numS most s).2.t ≠ 0) : (numS most s).2.l = s.l := by
  unfold numS at *
  split
  · next h0 =>
    rw [if_pos h0] at h
    split
    · next h1 => rw [if_pos h1] at h; exact absurd rfl h
    · rfl
  · rfl
theorem bytS_eq (most : Nat) (s : RS) : bytS most s = if (numS most s).2.t = 0 then (if (numS most s).2.l.length < (numS most s).1 then ([], ⟨s.l, 2⟩) else ((numS most s).2.l.take (numS most s).1, ⟨(numS most s).2.l.drop (numS most s).1, 0⟩)) else ([], ⟨s.l, (numS most s).2.t⟩) := by
  obtain ⟨l, t⟩ := s
  by_cases ht : t = 0
  · subst ht
    by_cases hE : numE l most = 0
    · have e : numS most ⟨l, 0⟩ = ((getF l).1, ⟨l.drop (getF l).2.1, 0⟩) := by unfold numS; rw [if_pos rfl, if_pos hE]
      rw [e]
      simp only [if_true]
      unfold bytS bytE
      simp only [if_true, hE]
      by_cases hl : (l.drop (getF l).2.1).length < (getF l).1
      · rw [if_pos hl, if_pos hl]; simp
      · rw [if_neg hl, if_neg hl]; simp [bytV, bytR]
    · have e : numS most ⟨l, 0⟩ = (0, ⟨l, numE l most⟩) := by unfold numS; rw [if_pos rfl, if_neg hE]
      rw [e]
      simp only [if_neg hE]
      unfold bytS bytE
      simp [hE]
  · rw [numS_stop (s := ⟨l, t⟩) ht, bytS_stop (s := ⟨l, t⟩) ht, if_neg ht]
theorem RfSl.back {w w' : World} {b c c' t t' : Nat} {A A' : Option Addr} {l l' : List UInt8} (h : RfSl w b A c l t) (h' : RfSl w' b A' c' l' t') (ht : Turn w w' b none) : RfSl (w'.setCell ⟨b, 0, none⟩ (.slice A l.length c)) b A c l t' :=
  h'.set0 (h.2.1.keep fun p hp => World.cell?_of_block (ht.block p.block (by have := h.lt; omega) (by omega) (by simp))) h.2.2.1 h.2.2.2
def BytF (w : World) (b : Nat) (r : List UInt8 × RS) (e : Ending) (w' : World) : Prop := ∃ A c, e = .returned (.slice A r.1.length c) ∧ OwnB w' w.heap.size (.slice A r.1.length c) r.1.length r.1 ∧ RfAt w' b r.2.l r.2.t ∧ Turn w w' b none
set_option maxRecDepth 100000 in
set_option maxHeartbeats 1000000 in
theorem xbytes_tot (b most : Nat) (s : RS) (w : World) (h : RfAt w b s.l s.t) (hm : most ≤ 1000000) :
    Calls Try.prog 43 #[.pointer (some ⟨b, 0, none⟩), .int .i64 (most : Int)] w (BytF w b (bytS most s)) := by
  have hEQ := bytS_eq most s
  have cn := xnum_tot b most s w h (by omega)
  have hle := numS_le most s
  generalize bytS most s = RES at *
  generalize numS most s = r at *
  obtain ⟨n, s1⟩ := r
  obtain ⟨l, t⟩ := s
  obtain ⟨l1, t1⟩ := s1
  dsimp only at h hEQ cn hle
  have hbl := h.lt
  obtain ⟨A, c, h⟩ := h
  obtain ⟨f0, f1⟩ := h.cells
  have e1 : max (most : Int) 0 = (most : Int) := by omega
  have e2 : IntKind.u64.wrap (most : Int) = (most : Int) := by rw [IntKind.wrap_u64]; omega
  have HEQ := hide hEQ
  clear hEQ
  go_enter Try.func43, Try.ntmps43
  go_wp2_with fail
  refine cn.mono ?_
  rintro e w2 ⟨rfl, ⟨A1, c1, h2⟩, ht2⟩
  obtain ⟨g0, g1⟩ := h2.cells
  have gz0 := h2.frozen 0
  have gz1 := h2.frozen 1
  have hbk := h.back h2 ht2
  have hlc := h2.2.2.1
  have hcm := h2.2.2.2
  unfold maxLen at hcm
  clear cn f0 f1 e1 e2
  by_cases ht : t1 = 0
  case neg =>
    have x1 : ((t1 : Int) == 0) = false := by rw [beq_eq_false_iff_ne]; omega
    have x2 : ((t1 : Int) != 0) = true := by simp only [bne_iff_ne, ne_eq]; omega
    have x3 : ¬ ((t1 : Int) = 0) := by omega
    have hq : BytF w b RES (.returned (.slice none 0 0)) (w2.setCell ⟨b, 0, none⟩ (.slice A l.length c)) := by
      rw [HEQ.out, if_neg ht]
      exact ⟨none, 0, rfl, OwnB.nil_ _ _, hbk.at_, ht2.set_ rfl _⟩
    have HQ := hide hq
    clear hq h h2 ht2 hbk ht
    go_wp2
    go_ret
    exact HQ.out
  subst ht
  have e3 : IntKind.u64.wrap (l1.length : Int) = (l1.length : Int) := by rw [IntKind.wrap_u64]; omega
  by_cases hn : l1.length < n
  · have x1 : decide ((l1.length : Int) < (n : Int)) = true := decide_eq_true (by omega)
    have hq : BytF w b RES (.returned (.slice none 0 0)) ((w2.setCell ⟨b, 1, none⟩ (.int .i64 2)).setCell ⟨b, 0, none⟩ (.slice A l.length c)) := by
      rw [HEQ.out, if_pos rfl, if_pos hn]
      exact ⟨none, 0, rfl, OwnB.nil_ _ _, (h.back (h2.set1 2) (ht2.set_ (p := ⟨b, 1, none⟩) rfl _)).at_, (ht2.set_ (p := ⟨b, 1, none⟩) rfl _).set_ rfl _⟩
    have HQ := hide hq
    clear hq h h2 ht2 hbk
    go_wp2
    go_ret
    exact HQ.out
  · have x1 : decide ((l1.length : Int) < (n : Int)) = false := decide_eq_false (by omega)
    have hnl : n ≤ l1.length := by omega
    have hn1 : n ≤ c1 := by omega
    have hA1 := h2.2.1.take hnl
    have hbl2 := h2.lt
    have ht3 : ¬ l1.length < n := hn
    go_wp2_with (at_builtin; refine wp_bytes_own _ rfl (.tmp 44) (.tmp 50) rfl w2.heap.size 0 _ [] rfl (own_lit w2 w2.heap.size 0 [] #[] (by rfl) rfl (by decide) (Nat.le_refl _)) b A1 n c1 (l1.take n) rfl (hA1.alloc (by omega) _) (by omega) w2.heap.size w2 ((Below.refl _ _).alloc (Nat.le_refl _) _) (Nat.le_refl _) (by simp) ?_; intro A2 c2 w3 ho3 hb3 hs3; refine Hid.out ?_)
    refine Lib.hid ?_
    rw [Nat.zero_add, List.nil_append] at ho3
    have h3 := h2.later hb3
    obtain ⟨k0, k1⟩ := h3.cells
    have kz0 := h3.frozen 0
    have hz := h3.cut hnl
    have hT : Turn w w3 b none := ht2.later hb3
    have hlt3 := hb3.size
    have HO := hide (And.intro ho3 (And.intro hT ht2.size))
    have hb3lt : b < w3.heap.size := by omega
    have hres : RES = (l1.take n, ⟨l1.drop n, 0⟩) := by rw [HEQ.out]; first | rw [if_pos rfl, if_neg hn] | rw [if_pos trivial, if_neg hn]
    have HRS := hide hres
    have hlen : (l1.take n).length = n := by rw [List.length_take]; omega
    clear ho3 hT h2 hbk ht2 g0 g1 gz0 gz1 h hA1 hb3 hs3 h3 hres HEQ
    generalize hq : l1.length = q at *
    clear hq
    by_cases hck : c1 = n
    · obtain rfl : q = n := by omega
      obtain rfl := hck
      rw [if_pos rfl, Nat.sub_self] at hz
      have hw : BytF w b RES (.returned (.slice A2 c1 c2)) (w3.setCell ⟨b, 0, none⟩ (.slice A1 0 0)) := by
        rw [HRS.out]
        have ho := OwnB.setOld9 (OwnB.mono HO.out.1 HO.out.2.2) (p := ⟨b, 0, none⟩) hbl (.slice A1 0 0)
        exact ⟨A2, c2, by rw [hlen], by rw [hlen]; exact ho, hz.at_, HO.out.2.1.set_ rfl _⟩
      have HW := hide hw
      clear hw hz HO HRS hlen hnl hn1 ht3 hn
      go_wp2
      go_ret
      exact HW.out
    · rw [if_neg hck] at hz
      have hw : BytF w b RES (.returned (.slice A2 n c2)) (w3.setCell ⟨b, 0, none⟩ (.slice (A1.map (·.add n)) (q - n) (c1 - n))) := by
        rw [HRS.out]
        have ho := OwnB.setOld9 (OwnB.mono HO.out.1 HO.out.2.2) (p := ⟨b, 0, none⟩) hbl (.slice (A1.map (·.add n)) (q - n) (c1 - n))
        exact ⟨A2, c2, by rw [hlen], by rw [hlen]; exact ho, hz.at_, HO.out.2.1.set_ rfl _⟩
      have HW := hide hw
      have hlt : n < c1 := by omega
      clear hw hz HO HRS hlen ht3 hn
      go_wp2
      go_ret
      exact HW.out
end Go.Proofs.Ytdmihbicpjmgjaa
namespace Go.Proofs.Ytdmihbicpjmgjaa
open Go.RowKit Go.Maps
set_option linter.unusedVariables false
set_option linter.unusedSimpArgs false

theorem pidsS_eq (most : Nat) (s : RS) : pidsS most s = if (numS most s).2.t = 0 then (if (prd (numS most s).1 (numS most s).2.l).2.2 = 0 then ((prd (numS most s).1 (numS most s).2.l).1, ⟨(prd (numS most s).1 (numS most s).2.l).2.1, 0⟩) else ([], ⟨s.l, (prd (numS most s).1 (numS most s).2.l).2.2⟩)) else ([], ⟨s.l, (numS most s).2.t⟩) := by
  obtain ⟨l, t⟩ := s
  by_cases ht : t = 0
  · subst ht
    by_cases hE : numE l most = 0
    · have e : numS most ⟨l, 0⟩ = ((getF l).1, ⟨l.drop (getF l).2.1, 0⟩) := by unfold numS; rw [if_pos rfl, if_pos hE]
      rw [e]
      simp only [if_true]
      unfold pidsS psE psV psR
      simp only [if_true, hE]
    · have e : numS most ⟨l, 0⟩ = (0, ⟨l, numE l most⟩) := by unfold numS; rw [if_pos rfl, if_neg hE]
      rw [e]
      simp only [if_neg hE]
      unfold pidsS psE
      simp [hE]
  · rw [numS_stop (s := ⟨l, t⟩) ht, pidsS_stop (s := ⟨l, t⟩) ht, if_neg ht]
section
variable {w w' : World} {b t : Nat} {l : List UInt8}
theorem RfAt.grown {row : Option Nat} (h : RfAt w b l t) (hg : w.grownBy w' row) (hr : ∀ g, row = some g → b < g) : RfAt w' b l t := by
  obtain ⟨A, c, h⟩ := h
  have hlt := h.lt
  exact ⟨A, c, h.keep fun i hi => hg.block i (by omega) (fun e => by have := hr i e.symm; omega)⟩
end
def PidsF (w : World) (b : Nat) (r : List Pr × RS) (e : Ending) (w' : World) : Prop := ∃ A c, e = .returned (.slice A r.1.length c) ∧ OwnP w' w.heap.size (.slice A r.1.length c) r.1.length r.1 ∧ RfAt w' b r.2.l r.2.t ∧ Turn w w' b none
set_option maxRecDepth 100000 in
set_option maxHeartbeats 4000000 in
theorem xpids_tot (b most : Nat) (s : RS) (w : World) (h : RfAt w b s.l s.t) (hm : most ≤ 1000000) :
    Calls Try.prog 75 #[.pointer (some ⟨b, 0, none⟩), .int .i64 (most : Int)] w (PidsF w b (pidsS most s)) := by
  obtain ⟨i0, hi, hz0, hz1, hz2⟩ := info_parts info_pid
  have hEQ := pidsS_eq most s
  have cn := xnum_tot b most s w h (by omega)
  have hle := numS_le most s
  have hnz := @numS_zero most s
  generalize pidsS most s = RES at *
  generalize numS most s = r at *
  obtain ⟨n, s1⟩ := r
  obtain ⟨l, t⟩ := s
  obtain ⟨l1, t1⟩ := s1
  dsimp only at h hEQ cn hle hnz
  have hbl := h.lt
  obtain ⟨A, c, h⟩ := h
  obtain ⟨f0, f1⟩ := h.cells
  have e1 : max (most : Int) 0 = (most : Int) := by omega
  have e2 : IntKind.u64.wrap (most : Int) = (most : Int) := by rw [IntKind.wrap_u64]; omega
  have HEQ := hide hEQ
  have HNZ := hide hnz
  clear hEQ hnz
  go_enter Try.func75, Try.ntmps75
  go_wp2_with fail
  refine cn.mono ?_
  rintro e w2 ⟨rfl, h2, ht2⟩
  clear cn f0 f1 e1 e2
  have I0 : (t1 = 0 ∧ PsInv n l1 n [] l1 0) ∨ (t1 ≠ 0 ∧ n = 0) := by
    by_cases e : t1 = 0
    · exact .inl ⟨e, PsInv.start n l1⟩
    · exact .inr ⟨e, HNZ.out e⟩
  go_wp2
  go_loopw [7, 8] (fun v i wr => ∃ (j : Nat) (A' : Option Addr) (c' : Nat) (q : List Pr) (rest : List UInt8) (t' : Nat), j ≤ n ∧ i = .int .u64 j ∧ v = .slice A' j c' ∧ OwnP wr w.heap.size (.slice A' j c') j q ∧ RfAt wr b rest t' ∧ Turn w wr b none ∧ ((t1 = 0 ∧ PsInv n l1 (n - j) q rest t') ∨ (t1 ≠ 0 ∧ n = 0 ∧ t' = t1))) (fun _ i _ => n - (intOf i).toNat)
  case atStart =>
    refine ⟨0, none, 0, [], l1, t1, Nat.zero_le _, rfl, rfl, OwnE.nil_ _ _, h2, ht2, ?_⟩
    rcases I0 with ⟨e, hI⟩ | ⟨e, hI⟩
    · exact .inl ⟨e, by rw [e]; exact hI⟩
    · exact .inr ⟨e, hI, rfl⟩
  case round =>
    clear h2 ht2 I0
    obtain ⟨j, A', c', q, rest, t', hj, rfl, rfl, hO, ⟨A1, c1, hR⟩, hT, hI⟩ := hrel
    obtain ⟨g0, g1⟩ := hR.cells
    have gz0 := hR.frozen 0
    have hsz := hT.size
    have hblr := hR.lt
    by_cases hjt : j < n ∧ t' = 0
    · obtain ⟨hjl, rfl⟩ := hjt
      have hI : t1 = 0 ∧ PsInv n l1 (n - j) q rest 0 := by
        rcases hI with h | ⟨_, h, _⟩
        · exact h
        · omega
      obtain ⟨i, hi'⟩ : ∃ i, n - j = i + 1 := ⟨n - j - 1, by omega⟩
      have e0 : n - (j + 1) = i := by omega
      rw [hi'] at hI
      have cp := xpid_tot b ⟨rest, 0⟩ wr ⟨A1, c1, hR⟩
      have hst : PsInv n l1 i (q ++ [(pidQ ⟨rest, 0⟩).1]) (pidQ ⟨rest, 0⟩).2.l (pidQ ⟨rest, 0⟩).2.t := by
        unfold pidQ
        rw [if_pos rfl]
        by_cases hp : (pidG rest).2.2.2 = 0
        · rw [if_pos hp]; exact hI.2.step hp
        · rw [if_neg hp]; exact hI.2.bad hp
      generalize pidQ ⟨rest, 0⟩ = r at *
      obtain ⟨p, s2⟩ := r
      (try dsimp only at cp)
      (try dsimp only at hst)
      have e4 : IntKind.u64.wrap ((j : Int) + 1) = ((j + 1 : Nat) : Int) := by rw [IntKind.wrap_u64]; omega
      have x1 : decide ((j : Int) < (n : Int)) = true := decide_eq_true (by omega)
      have HST := hide (And.intro hI.1 hst)
      have E0 := hide e0
      clear hst hI hi' e0 hR
      go_wp2_with fail
      refine cp.mono ?_
      rintro e w3 ⟨rfl, h3, ht3⟩
      have hO3 := hO.turnLow ht3 hbl
      have hT3 := hT.trans ht3 (Mov.refl _ _)
      have hs3 := hT3.size
      clear cp hO hT ht3 g0 g1 gz0
      go_wp2_with (at_builtin; refine wp_append_e _ rfl (.tmp 30) (.tmp 33) 28 rfl 25 i0 _ 8 Try.underlying28 hi hz0 ‹_› hz2 rfl prOk w.heap.size j _ q rfl (hO3.alloc _) (w3.heap.size + 1) _ 1 1 [p] rfl (es_pr w3 p _) (by unfold maxLen; omega) (by omega) 0 _ (Below.refl _ _) (Nat.zero_le _) (by simp; omega) ?_; intro A2 c2 w4 r1 r2 r3 r4; refine Hid.out ?_)
      have r5 : (w3.alloc (.cells #[.int .u16 (p.i : Int), .int .u32 (p.k : Int)] 25)).grownBy w4 (Value.slice A' j c').ownBlock := r4
      have r6 : OwnP w4 w.heap.size (.slice A2 (j + 1) c2) (j + 1) (q ++ [p]) := r1
      have hT4 := (hT3.alloc (.cells #[.int .u16 (p.i : Int), .int .u32 (p.k : Int)] 25)).grownNew r5 (fun g hg => (hO3.lt g hg).1)
      have h3a : RfAt (w3.alloc (.cells #[.int .u16 (p.i : Int), .int .u32 (p.k : Int)] 25)) b s2.l s2.t := by obtain ⟨A9, c9, h9⟩ := h3; exact ⟨A9, c9, h9.alloc _⟩
      have hR4 := h3a.grown r5 (fun g hg => by have := (hO3.lt g hg).1; omega)
      have hI4 : (t1 = 0 ∧ PsInv n l1 (n - (j + 1)) (q ++ [p]) s2.l s2.t) ∨ (t1 ≠ 0 ∧ n = 0 ∧ s2.t = t1) := .inl ⟨HST.out.1, by rw [E0.out]; exact HST.out.2⟩
      have HR := hide (And.intro r6 (And.intro hR4 (And.intro hT4 hI4)))
      refine Lib.hid ?_
      clear r1 r2 r3 r4 r5 r6 hT4 hR4 hO3 hT3 h3 HST hI4 h3a
      go_wp2_with fail
      go_roundw
      case rel => exact ⟨j + 1, A2, c2, q ++ [p], s2.l, s2.t, by omega, by go_num, rfl, HR.out⟩
      case measure => simp [intOf]; omega
    · have hbk := h.back hR hT
      have hlq := OwnE.len prOk hO
      by_cases htz : t' = 0
      · subst htz
        have hjn : j = n := by omega
        subst hjn
        have hI : t1 = 0 ∧ PsInv j l1 (j - j) q rest 0 := by
          rcases hI with h | ⟨h, _, h2⟩
          · exact h
          · exact absurd h2.symm h
        rw [Nat.sub_self] at hI
        obtain ⟨d1, d2, d3⟩ := hI.2.done
        have hw : PidsF w b RES (.returned (.slice A' j c')) wr := by
          rw [HEQ.out]
          first | rw [if_pos hI.1] | skip
          rw [if_pos d3, d1, d2]
          subst hlq
          exact ⟨A', c', rfl, hO, ⟨A1, c1, hR⟩, hT⟩
        have HW := hide hw
        have x1 : decide ((j : Int) < (j : Int)) = false := decide_eq_false (by omega)
        have x2 : ¬ j < j := by omega
        clear hw hO hR hT hI d1 d2 d3 hlq hbk hjt
        go_wp2
        go_ret
        exact HW.out
      · have hw : PidsF w b RES (.returned (.slice none 0 0)) (wr.setCell ⟨b, 0, none⟩ (.slice A l.length c)) := by
          rw [HEQ.out]
          rcases hI with ⟨e, hI⟩ | ⟨e, _, e2⟩
          · have d := hI.out htz
            rw [if_pos e, if_neg (by rw [d]; exact htz), d]
            exact ⟨none, 0, rfl, OwnE.nil_ _ _, hbk.at_, hT.set_ rfl _⟩
          · rw [if_neg e, ← e2]
            exact ⟨none, 0, rfl, OwnE.nil_ _ _, hbk.at_, hT.set_ rfl _⟩
        have HW := hide hw
        have x2 : ((t' : Int) == 0) = false := by rw [beq_eq_false_iff_ne]; omega
        have x3 : ((t' : Int) != 0) = true := by simp only [bne_iff_ne, ne_eq]; omega
        have x4 : ¬ ((t' : Int) = 0) := by omega
        by_cases hjl : j < n
        · have x1 : decide ((j : Int) < (n : Int)) = true := decide_eq_true (by omega)
          clear hw hO hR hT hI hlq hbk hjt htz
          go_wp2
          go_ret
          exact HW.out
        · have x1 : decide ((j : Int) < (n : Int)) = false := decide_eq_false (by omega)
          clear hw hO hR hT hI hlq hbk hjt htz
          go_wp2
          go_ret
          exact HW.out
end Go.Proofs.Ytdmihbicpjmgjaa
namespace Go.Proofs.Ytdmihbicpjmgjaa
open Go.RowKit Go.Maps
set_option linter.unusedVariables false
set_option linter.unusedSimpArgs false

theorem rdnum_tot (b most : Nat) (s : RS) (w : World) (h : RdAt w b s.l s.t) (hm : most < 18446744073709551616) :
    Calls Try.prog 36 #[.pointer (some ⟨b, 0, none⟩), .int .u64 (most : Int)] w (ReadsP w b (.int .u64 ((numS most s).1 : Nat)) (numS most s).2.l (numS most s).2.t) := by
  obtain ⟨l, t⟩ := s
  dsimp only at h
  by_cases ht : t = 0
  · subst ht
    by_cases hE : numE l most = 0
    · have e : numS most ⟨l, 0⟩ = ((getF l).1, ⟨l.drop (getF l).2.1, 0⟩) := by unfold numS; rw [if_pos rfl, if_pos hE]
      rw [e]
      exact rdnum_ok b l most w h hm hE
    · have e : numS most ⟨l, 0⟩ = (0, ⟨l, numE l most⟩) := by unfold numS; rw [if_pos rfl, if_neg hE]
      rw [e]
      exact rdnum_bad b l most w h hm hE
  · rw [numS_stop (s := ⟨l, t⟩) ht]
    exact rdnum_stop b t l most w h ht
theorem rdpid_tot (b : Nat) (s : RS) (w : World) (h : RdAt w b s.l s.t) :
    Calls Try.prog 37 #[.pointer (some ⟨b, 0, none⟩)] w (ReadsP w b (.agg #[.int .u16 ((pidQ s).1.i : Int), .int .u32 ((pidQ s).1.k : Int)]) (pidQ s).2.l (pidQ s).2.t) := by
  obtain ⟨l, t⟩ := s
  dsimp only at h
  by_cases ht : t = 0
  · subst ht
    by_cases hE : (pidG l).2.2.2 = 0
    · have e : pidQ ⟨l, 0⟩ = (prOf l, ⟨l.drop (pidG l).2.2.1, 0⟩) := by unfold pidQ; rw [if_pos rfl, if_pos hE]
      rw [e]
      exact rdpid_ok b l w h hE
    · have e : pidQ ⟨l, 0⟩ = (default, ⟨l, (pidG l).2.2.2⟩) := by unfold pidQ; rw [if_pos rfl, if_neg hE]
      rw [e]
      exact rdpid_bad b l w h hE
  · rw [pidQ_stop (s := ⟨l, t⟩) ht]
    exact rdpid_stop b t l w h ht
def BytT (w : World) (b : Nat) (r : List UInt8 × RS) (e : Ending) (w' : World) : Prop := ∃ A c, e = .returned (.slice A r.1.length c) ∧ OwnB w' w.heap.size (.slice A r.1.length c) r.1.length r.1 ∧ RdAt w' b r.2.l r.2.t ∧ Turn w w' b none
theorem rdbytes_tot (b : Nat) (most : Nat) (s : RS) (w : World) (h : RdAt w b s.l s.t) (hm : most ≤ 1000000) (hl : s.l.length ≤ 100000000000) :
    Calls Try.prog 38 #[.pointer (some ⟨b, 0, none⟩), .int .i64 (most : Int)] w (BytT w b (bytS most s)) := by
  obtain ⟨l, t⟩ := s
  dsimp only at h hl
  have hmf : mostF (most : Int) = most := by unfold mostF; simp
  by_cases ht : t = 0
  · subst ht
    refine (rdbytes_any b l most w h (by omega) (by omega) hl).mono fun e w' hw => ?_
    rw [hmf] at hw
    rcases hw with ⟨hE, v, h1, ⟨A, c, h2, h3⟩, h4, h5⟩ | ⟨hE, h1, h2, h3⟩
    · have e : bytS most ⟨l, 0⟩ = (bytV l, ⟨bytR l, 0⟩) := by unfold bytS; rw [if_pos rfl, if_pos hE]
      rw [e]
      exact ⟨A, c, by rw [h1, h2], h3, h4, h5⟩
    · have e : bytS most ⟨l, 0⟩ = ([], ⟨l, bytE l most⟩) := by unfold bytS; rw [if_pos rfl, if_neg hE]
      rw [e]
      exact ⟨none, 0, h1, OwnB.nil_ _ _, h2, h3⟩
  · rw [bytS_stop (s := ⟨l, t⟩) ht]
    exact (rdbytes_stop b t l most w h ht).mono fun e w' ⟨h1, h2, h3⟩ => ⟨none, 0, h1, OwnB.nil_ _ _, h2, h3⟩
def PidsT (w : World) (b : Nat) (r : List Pr × RS) (e : Ending) (w' : World) : Prop := ∃ A c, e = .returned (.slice A r.1.length c) ∧ OwnP w' w.heap.size (.slice A r.1.length c) r.1.length r.1 ∧ RdAt w' b r.2.l r.2.t ∧ Turn w w' b none
theorem rdpids_tot (b : Nat) (most : Nat) (s : RS) (w : World) (h : RdAt w b s.l s.t) (hm : most ≤ 1000000) :
    Calls Try.prog 71 #[.pointer (some ⟨b, 0, none⟩), .int .i64 (most : Int)] w (PidsT w b (pidsS most s)) := by
  obtain ⟨l, t⟩ := s
  dsimp only at h
  have hmf : mostF (most : Int) = most := by unfold mostF; simp
  by_cases ht : t = 0
  · subst ht
    refine (rdpids_any b l most w h (by omega) (by omega)).mono fun e w' hw => ?_
    rw [hmf] at hw
    rcases hw with ⟨hE, v, h1, ⟨A, c, h2, h3⟩, h4, h5⟩ | ⟨hE, h1, h2, h3⟩
    · have e : pidsS most ⟨l, 0⟩ = (psV l, ⟨psR l, 0⟩) := by unfold pidsS; rw [if_pos rfl, if_pos hE]
      rw [e]
      exact ⟨A, c, by rw [h1, h2], h3, h4, h5⟩
    · have e : pidsS most ⟨l, 0⟩ = ([], ⟨l, psE l most⟩) := by unfold pidsS; rw [if_pos rfl, if_neg hE]
      rw [e]
      exact ⟨none, 0, h1, OwnE.nil_ _ _, h2, h3⟩
  · rw [pidsS_stop (s := ⟨l, t⟩) ht]
    exact (rdpids_stop b t l most w h ht).mono fun e w' ⟨h1, h2, h3⟩ => ⟨none, 0, h1, OwnE.nil_ _ _, h2, h3⟩
end Go.Proofs.Ytdmihbicpjmgjaa
