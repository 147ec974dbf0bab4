import Derived.Test.YtjmkecaljkcoiaaDoorQRfE
import Derived.Test.YtjmkecaljkcoiaaDoorQCmd6
namespace Go.Proofs.YtjmkecaljkcoiaaDoor
open Go.RowKit Go.Maps
set_option linter.unusedVariables false
set_option linter.unusedSimpArgs false
set_option maxRecDepth 100000 in
set_option maxHeartbeats 1000000 in
theorem xpid_tot (b : Nat) (s : RS) (w : World) (h : RfAt w b s.l s.t) :
    Calls Tryd.prog 101 #[.pointer (some ⟨b, 0, none⟩)] w (ReadsF w b (.agg #[.int .u16 ((pidQ s).1.i : Int), .int .u32 ((pidQ s).1.k : Int)]) (pidQ s).2.l (pidQ s).2.t) := by
  obtain ⟨l, t⟩ := s
  dsimp only at h
  have hbl := h.lt
  obtain ⟨A, c, h⟩ := h
  have h1 := h.alloc (.cells #[.int .u16 0, .int .u32 0] 25)
  obtain ⟨f0, f1⟩ := h1.cells
  have fz := h1.frozen
  have hlc := h.2.2.1
  have hcm := h.2.2.2
  have hbz : Below w.heap.size w (w.alloc (.cells #[.int .u16 0, .int .u32 0] 25)) := (Below.refl _ _).alloc (Nat.le_refl _) _
  by_cases ht : t = 0
  case neg =>
    rw [pidQ_stop (s := ⟨l, t⟩) ht]
    have x1 : ((t : Int) != 0) = true := by simp only [bne_iff_ne, ne_eq]; omega
    have HQ := hide (And.intro h1.at_ ((Turn.refl w b none).alloc (.cells #[.int .u16 0, .int .u32 0] 25)))
    clear h h1 ht
    go_enter Tryd.func101, Tryd.ntmps101
    go_wp2
    refine bodyPost_ret (v := .agg #[.int .u16 0, .int .u32 0]) (by simp [results, Tryd.results101, go_sem]) rfl ⟨rfl, HQ.out.1, HQ.out.2⟩
  subst ht
  have cg := rgpid_any A l.length c l b (w.alloc (.cells #[.int .u16 0, .int .u32 0] 25)) h1.2.1 (by simp; omega) hlc hcm
  have hbd := pidG_bds l
  have hN : pidQ ⟨l, 0⟩ = if (pidG l).2.2.2 = 0 then (prOf l, ⟨l.drop (pidG l).2.2.1, 0⟩) else (default, ⟨l, (pidG l).2.2.2⟩) := by
    unfold pidQ
    rw [if_pos rfl]
  have hpi : (prOf l).i = (pidG l).1 := rfl
  have hpk : (prOf l).k = (pidG l).2.1 := rfl
  unfold GetsP at cg
  generalize prOf l = P at *
  generalize pidG l = r at *
  obtain ⟨i, k, u, e⟩ := r
  dsimp only at cg hbd hN hpi hpk
  unfold maxLen at hcm
  by_cases he : e = 0
  case neg =>
    rw [hN, if_neg he]
    have x1 : ((e : Int) != 0) = true := by simp only [bne_iff_ne, ne_eq]; omega
    clear he hN hbd h hpi hpk
    go_enter Tryd.func101, Tryd.ntmps101
    go_wp2_with fail
    refine cg.mono ?_
    rintro e9 w9 ⟨rfl, hb9⟩
    have h9 := h1.later hb9
    obtain ⟨g0, g1⟩ := h9.cells
    have gz := h9.frozen 1
    have hs9 : w.heap.size < w9.heap.size := by have := hb9.size; simp at this; omega
    have zz : Blk (w.alloc (.cells #[.int .u16 0, .int .u32 0] 25)) w.heap.size #[.int .u16 0, .int .u32 0] 25 := heap_alloc_new w _
    have z9 := zz.later hb9
    have r0 : w9.cell? ⟨w.heap.size, 0, none⟩ = some (.int .u16 0) := z9.cell 0
    have r1 : w9.cell? ⟨w.heap.size, 1, none⟩ = some (.int .u32 0) := z9.cell 1
    have y0 := z9.frozen 0
    have y1 := z9.frozen 1
    have hb9b : b < w9.heap.size := by omega
    have hT : Turn w w9 b none := Turn.of_below (hbz.trans (hb9.mono hbz.size)) _ _
    have q1 := ((((h9.set1 e).other (p := ⟨w.heap.size, 0, none⟩) hbl (.int .u16 0)).other (p := ⟨w.heap.size, 1, none⟩) hbl (.int .u32 0)).alloc (.cells #[.int .u16 (i : Int), .int .u32 (k : Int)] 25)).at_
    have q2 := (((hT.set_ (p := ⟨b, 1, none⟩) rfl (.int .i64 (e : Int))).setNew (p := ⟨w.heap.size, 0, none⟩) (Nat.le_refl _) (.int .u16 0)).setNew (p := ⟨w.heap.size, 1, none⟩) (Nat.le_refl _) (.int .u32 0)).alloc (.cells #[.int .u16 (i : Int), .int .u32 (k : Int)] 25)
    have HQ := hide (And.intro q1 q2)
    have zf := (((z9.other (q := ⟨b, 1, none⟩) (by show b ≠ w.heap.size; omega) (.int .i64 (e : Int))).set_ 0 (.int .u16 0)).set_ 1 (.int .u32 0)).later ((Below.refl _ _).alloc (Nat.le_refl _) (.cells #[.int .u16 (i : Int), .int .u32 (k : Int)] 25))
    have t0 := zf.cell 0
    have t1 := zf.cell 1
    have HZF := hide (And.intro t0 t1)
    clear cg f0 f1 fz q1 q2 hT h9 h1 zz z9 zf t0 t1
    go_wp2
    obtain ⟨t0, t1⟩ := HZF.out
    simp at t0 t1
    refine bodyPost_ret (v := .agg #[.int .u16 0, .int .u32 0]) (by first | (simp [results, Tryd.results101, go_sem]; done) | (simp [results, Tryd.results101, go_sem, t0, t1])) rfl ⟨rfl, HQ.out.1, HQ.out.2⟩
  subst he
  rw [hN, if_pos rfl]
  have hkl : u ≤ l.length := hbd.2.2.1
  have hi' := hbd.1
  have hk' := hbd.2.1
  dsimp only
  rw [hpi, hpk]
  clear hN hpi hpk hbd h
  go_enter Tryd.func101, Tryd.ntmps101
  go_wp2_with fail
  refine cg.mono ?_
  rintro e9 w9 ⟨rfl, hb9⟩
  have h9 := h1.later hb9
  obtain ⟨g0, g1⟩ := h9.cells
  have gz := h9.frozen 0
  have hs9 : w.heap.size < w9.heap.size := by have := hb9.size; simp at this; omega
  have zz : Blk (w.alloc (.cells #[.int .u16 0, .int .u32 0] 25)) w.heap.size #[.int .u16 0, .int .u32 0] 25 := heap_alloc_new w _
  have z9 := zz.later hb9
  have r0 : w9.cell? ⟨w.heap.size, 0, none⟩ = some (.int .u16 0) := z9.cell 0
  have r1 : w9.cell? ⟨w.heap.size, 1, none⟩ = some (.int .u32 0) := z9.cell 1
  have y0 := z9.frozen 0
  have y1 := z9.frozen 1
  have hb9b : b < w9.heap.size := by omega
  have hT : Turn w w9 b none := Turn.of_below (hbz.trans (hb9.mono hbz.size)) _ _
  have hz := h9.cut hkl
  generalize hn : l.length = q at *
  clear hn
  by_cases hck : c = u
  · obtain rfl : q = u := by omega
    obtain rfl := hck
    rw [if_pos rfl, Nat.sub_self] at hz
    have q1 := (((hz.other (p := ⟨w.heap.size, 0, none⟩) hbl (.int .u16 (i : Int))).other (p := ⟨w.heap.size, 1, none⟩) hbl (.int .u32 (k : Int))).alloc (.cells #[.int .u16 (i : Int), .int .u32 (k : Int)] 25)).at_
    have q2 := (((hT.set_ (p := ⟨b, 0, none⟩) rfl (.slice A 0 0)).setNew (p := ⟨w.heap.size, 0, none⟩) (Nat.le_refl _) (.int .u16 (i : Int))).setNew (p := ⟨w.heap.size, 1, none⟩) (Nat.le_refl _) (.int .u32 (k : Int))).alloc (.cells #[.int .u16 (i : Int), .int .u32 (k : Int)] 25)
    have HQ := hide (And.intro q1 q2)
    have zf := (((z9.other (q := ⟨b, 0, none⟩) (by show b ≠ w.heap.size; omega) (.slice A 0 0)).set_ 0 (.int .u16 (i : Int))).set_ 1 (.int .u32 (k : Int))).later ((Below.refl _ _).alloc (Nat.le_refl _) (.cells #[.int .u16 (i : Int), .int .u32 (k : Int)] 25))
    have t0 := zf.cell 0
    have t1 := zf.cell 1
    have HZF := hide (And.intro t0 t1)
    clear cg f0 f1 fz q1 q2 hT h9 h1 zz z9 hz zf t0 t1
    go_wp2
    obtain ⟨t0, t1⟩ := HZF.out
    simp at t0 t1
    refine bodyPost_ret (v := .agg #[.int .u16 (i : Int), .int .u32 (k : Int)]) (by first | (simp [results, Tryd.results101, go_sem]; done) | (simp [results, Tryd.results101, go_sem, t0, t1])) rfl ⟨rfl, HQ.out.1, HQ.out.2⟩
  · rw [if_neg hck] at hz
    have hlt : u < c := by omega
    have q1 := (((hz.other (p := ⟨w.heap.size, 0, none⟩) hbl (.int .u16 (i : Int))).other (p := ⟨w.heap.size, 1, none⟩) hbl (.int .u32 (k : Int))).alloc (.cells #[.int .u16 (i : Int), .int .u32 (k : Int)] 25)).at_
    have q2 := (((hT.set_ (p := ⟨b, 0, none⟩) rfl (.slice (A.map (·.add u)) (q - u) (c - u))).setNew (p := ⟨w.heap.size, 0, none⟩) (Nat.le_refl _) (.int .u16 (i : Int))).setNew (p := ⟨w.heap.size, 1, none⟩) (Nat.le_refl _) (.int .u32 (k : Int))).alloc (.cells #[.int .u16 (i : Int), .int .u32 (k : Int)] 25)
    have HQ := hide (And.intro q1 q2)
    have zf := (((z9.other (q := ⟨b, 0, none⟩) (by show b ≠ w.heap.size; omega) (.slice (A.map (·.add u)) (q - u) (c - u))).set_ 0 (.int .u16 (i : Int))).set_ 1 (.int .u32 (k : Int))).later ((Below.refl _ _).alloc (Nat.le_refl _) (.cells #[.int .u16 (i : Int), .int .u32 (k : Int)] 25))
    have t0 := zf.cell 0
    have t1 := zf.cell 1
    have HZF := hide (And.intro t0 t1)
    clear cg f0 f1 fz q1 q2 hT h9 h1 zz z9 hz zf t0 t1
    go_wp2
    obtain ⟨t0, t1⟩ := HZF.out
    simp at t0 t1
    refine bodyPost_ret (v := .agg #[.int .u16 (i : Int), .int .u32 (k : Int)]) (by first | (simp [results, Tryd.results101, go_sem]; done) | (simp [results, Tryd.results101, go_sem, t0, t1])) rfl ⟨rfl, HQ.out.1, HQ.out.2⟩
end Go.Proofs.YtjmkecaljkcoiaaDoor
namespace Go.Proofs.YtjmkecaljkcoiaaDoor
open Go.RowKit Go.Maps
set_option linter.unusedVariables false
set_option linter.unusedSimpArgs false
theorem RfSl.back {w w' : World} {b c c' t t' : Nat} {A A' : Option Addr} {l l' : List UInt8} (h : RfSl w b A c l t) (h' : RfSl w' b A' c' l' t') (ht : Turn w w' b none) : RfSl (w'.setCell ⟨b, 0, none⟩ (.slice A l.length c)) b A c l t' :=
  h'.set0 (h.2.1.keep fun p hp => World.cell?_of_block (ht.block p.block (by have := h.lt; omega) (by omega) (by simp))) h.2.2.1 h.2.2.2
def BytF (w : World) (b : Nat) (r : List UInt8 × RS) (e : Ending) (w' : World) : Prop := ∃ A c, e = .returned (.slice A r.1.length c) ∧ OwnB w' w.heap.size (.slice A r.1.length c) r.1.length r.1 ∧ RfAt w' b r.2.l r.2.t ∧ Turn w w' b none
end Go.Proofs.YtjmkecaljkcoiaaDoor
namespace Go.Proofs.YtjmkecaljkcoiaaDoor
open Go.RowKit Go.Maps
set_option linter.unusedVariables false
set_option linter.unusedSimpArgs false
theorem pidsS_eq (most : Nat) (s : RS) : pidsS most s = if (numS most s).2.t = 0 then (if (prd (numS most s).1 (numS most s).2.l).2.2 = 0 then ((prd (numS most s).1 (numS most s).2.l).1, ⟨(prd (numS most s).1 (numS most s).2.l).2.1, 0⟩) else ([], ⟨s.l, (prd (numS most s).1 (numS most s).2.l).2.2⟩)) else ([], ⟨s.l, (numS most s).2.t⟩) := by
  obtain ⟨l, t⟩ := s
  by_cases ht : t = 0
  · subst ht
    by_cases hE : numE l most = 0
    · have e : numS most ⟨l, 0⟩ = ((getF l).1, ⟨l.drop (getF l).2.1, 0⟩) := by unfold numS; rw [if_pos rfl, if_pos hE]
      rw [e]
      simp only [if_true]
      unfold pidsS psE psV psR
      simp only [if_true, hE]
    · have e : numS most ⟨l, 0⟩ = (0, ⟨l, numE l most⟩) := by unfold numS; rw [if_pos rfl, if_neg hE]
      rw [e]
      simp only [if_neg hE]
      unfold pidsS psE
      simp [hE]
  · rw [numS_stop (s := ⟨l, t⟩) ht, pidsS_stop (s := ⟨l, t⟩) ht, if_neg ht]
section
variable {w w' : World} {b t : Nat} {l : List UInt8}
theorem RfAt.grown {row : Option Nat} (h : RfAt w b l t) (hg : w.grownBy w' row) (hr : ∀ g, row = some g → b < g) : RfAt w' b l t := by
  obtain ⟨A, c, h⟩ := h
  have hlt := h.lt
  exact ⟨A, c, h.keep fun i hi => hg.block i (by omega) (fun e => by have := hr i e.symm; omega)⟩
end
def PidsF (w : World) (b : Nat) (r : List Pr × RS) (e : Ending) (w' : World) : Prop := ∃ A c, e = .returned (.slice A r.1.length c) ∧ OwnP w' w.heap.size (.slice A r.1.length c) r.1.length r.1 ∧ RfAt w' b r.2.l r.2.t ∧ Turn w w' b none
set_option maxRecDepth 100000 in
set_option maxHeartbeats 4000000 in
theorem xpids_tot (b most : Nat) (s : RS) (w : World) (h : RfAt w b s.l s.t) (hm : most ≤ 1000000) :
    Calls Tryd.prog 57 #[.pointer (some ⟨b, 0, none⟩), .int .i64 (most : Int)] w (PidsF w b (pidsS most s)) := by
  obtain ⟨i0, hi, hz0, hz1, hz2⟩ := info_parts info_pid
  have hEQ := pidsS_eq most s
  have cn := xnum_tot b most s w h (by omega)
  have hle := numS_le most s
  have hnz := @numS_zero most s
  generalize pidsS most s = RES at *
  generalize numS most s = r at *
  obtain ⟨n, s1⟩ := r
  obtain ⟨l, t⟩ := s
  obtain ⟨l1, t1⟩ := s1
  dsimp only at h hEQ cn hle hnz
  have hbl := h.lt
  obtain ⟨A, c, h⟩ := h
  obtain ⟨f0, f1⟩ := h.cells
  have e1 : max (most : Int) 0 = (most : Int) := by omega
  have e2 : IntKind.u64.wrap (most : Int) = (most : Int) := by rw [IntKind.wrap_u64]; omega
  have HEQ := hide hEQ
  have HNZ := hide hnz
  clear hEQ hnz
  go_enter Tryd.func57, Tryd.ntmps57
  go_wp2_with fail
  refine cn.mono ?_
  rintro e w2 ⟨rfl, h2, ht2⟩
  clear cn f0 f1 e1 e2
  have I0 : (t1 = 0 ∧ PsInv n l1 n [] l1 0) ∨ (t1 ≠ 0 ∧ n = 0) := by
    by_cases e : t1 = 0
    · exact .inl ⟨e, PsInv.start n l1⟩
    · exact .inr ⟨e, HNZ.out e⟩
  go_wp2
  go_loopw [7, 8] (fun v i wr => ∃ (j : Nat) (A' : Option Addr) (c' : Nat) (q : List Pr) (rest : List UInt8) (t' : Nat), j ≤ n ∧ i = .int .u64 j ∧ v = .slice A' j c' ∧ OwnP wr w.heap.size (.slice A' j c') j q ∧ RfAt wr b rest t' ∧ Turn w wr b none ∧ ((t1 = 0 ∧ PsInv n l1 (n - j) q rest t') ∨ (t1 ≠ 0 ∧ n = 0 ∧ t' = t1))) (fun _ i _ => n - (intOf i).toNat)
  case atStart =>
    refine ⟨0, none, 0, [], l1, t1, Nat.zero_le _, rfl, rfl, OwnE.nil_ _ _, h2, ht2, ?_⟩
    rcases I0 with ⟨e, hI⟩ | ⟨e, hI⟩
    · exact .inl ⟨e, by rw [e]; exact hI⟩
    · exact .inr ⟨e, hI, rfl⟩
  case round =>
    clear h2 ht2 I0
    obtain ⟨j, A', c', q, rest, t', hj, rfl, rfl, hO, ⟨A1, c1, hR⟩, hT, hI⟩ := hrel
    obtain ⟨g0, g1⟩ := hR.cells
    have gz0 := hR.frozen 0
    have hsz := hT.size
    have hblr := hR.lt
    by_cases hjt : j < n ∧ t' = 0
    · obtain ⟨hjl, rfl⟩ := hjt
      have hI : t1 = 0 ∧ PsInv n l1 (n - j) q rest 0 := by
        rcases hI with h | ⟨_, h, _⟩
        · exact h
        · omega
      obtain ⟨i, hi'⟩ : ∃ i, n - j = i + 1 := ⟨n - j - 1, by omega⟩
      have e0 : n - (j + 1) = i := by omega
      rw [hi'] at hI
      have cp := xpid_tot b ⟨rest, 0⟩ wr ⟨A1, c1, hR⟩
      have hst : PsInv n l1 i (q ++ [(pidQ ⟨rest, 0⟩).1]) (pidQ ⟨rest, 0⟩).2.l (pidQ ⟨rest, 0⟩).2.t := by
        unfold pidQ
        rw [if_pos rfl]
        by_cases hp : (pidG rest).2.2.2 = 0
        · rw [if_pos hp]; exact hI.2.step hp
        · rw [if_neg hp]; exact hI.2.bad hp
      generalize pidQ ⟨rest, 0⟩ = r at *
      obtain ⟨p, s2⟩ := r
      (try dsimp only at cp)
      (try dsimp only at hst)
      have e4 : IntKind.u64.wrap ((j : Int) + 1) = ((j + 1 : Nat) : Int) := by rw [IntKind.wrap_u64]; omega
      have x1 : decide ((j : Int) < (n : Int)) = true := decide_eq_true (by omega)
      have HST := hide (And.intro hI.1 hst)
      have E0 := hide e0
      clear hst hI hi' e0 hR
      go_wp2_with fail
      refine cp.mono ?_
      rintro e w3 ⟨rfl, h3, ht3⟩
      have hO3 := hO.turnLow ht3 hbl
      have hT3 := hT.trans ht3 (Mov.refl _ _)
      have hs3 := hT3.size
      clear cp hO hT ht3 g0 g1 gz0
      go_wp2_with (at_builtin; refine wp_append_e _ rfl (.tmp 30) (.tmp 33) 30 rfl 25 i0 _ 8 Tryd.underlying30 hi hz0 ‹_› hz2 rfl prOk w.heap.size j _ q rfl (hO3.alloc _) (w3.heap.size + 1) _ 1 1 [p] rfl (es_pr w3 p _) (by unfold maxLen; omega) (by omega) 0 _ (Below.refl _ _) (Nat.zero_le _) (by simp; omega) ?_; intro A2 c2 w4 r1 r2 r3 r4; refine Hid.out ?_)
      have r5 : (w3.alloc (.cells #[.int .u16 (p.i : Int), .int .u32 (p.k : Int)] 25)).grownBy w4 (Value.slice A' j c').ownBlock := r4
      have r6 : OwnP w4 w.heap.size (.slice A2 (j + 1) c2) (j + 1) (q ++ [p]) := r1
      have hT4 := (hT3.alloc (.cells #[.int .u16 (p.i : Int), .int .u32 (p.k : Int)] 25)).grownNew r5 (fun g hg => (hO3.lt g hg).1)
      have h3a : RfAt (w3.alloc (.cells #[.int .u16 (p.i : Int), .int .u32 (p.k : Int)] 25)) b s2.l s2.t := by obtain ⟨A9, c9, h9⟩ := h3; exact ⟨A9, c9, h9.alloc _⟩
      have hR4 := h3a.grown r5 (fun g hg => by have := (hO3.lt g hg).1; omega)
      have hI4 : (t1 = 0 ∧ PsInv n l1 (n - (j + 1)) (q ++ [p]) s2.l s2.t) ∨ (t1 ≠ 0 ∧ n = 0 ∧ s2.t = t1) := .inl ⟨HST.out.1, by rw [E0.out]; exact HST.out.2⟩
      have HR := hide (And.intro r6 (And.intro hR4 (And.intro hT4 hI4)))
      refine Lib.hid ?_
      clear r1 r2 r3 r4 r5 r6 hT4 hR4 hO3 hT3 h3 HST hI4 h3a
      go_wp2_with fail
      go_roundw
      case rel => exact ⟨j + 1, A2, c2, q ++ [p], s2.l, s2.t, by omega, by go_num, rfl, HR.out⟩
      case measure => simp [intOf]; omega
    · have hbk := h.back hR hT
      have hlq := OwnE.len prOk hO
      by_cases htz : t' = 0
      · subst htz
        have hjn : j = n := by omega
        subst hjn
        have hI : t1 = 0 ∧ PsInv j l1 (j - j) q rest 0 := by
          rcases hI with h | ⟨h, _, h2⟩
          · exact h
          · exact absurd h2.symm h
        rw [Nat.sub_self] at hI
        obtain ⟨d1, d2, d3⟩ := hI.2.done
        have hw : PidsF w b RES (.returned (.slice A' j c')) wr := by
          rw [HEQ.out]
          first | rw [if_pos hI.1] | skip
          rw [if_pos d3, d1, d2]
          subst hlq
          exact ⟨A', c', rfl, hO, ⟨A1, c1, hR⟩, hT⟩
        have HW := hide hw
        have x1 : decide ((j : Int) < (j : Int)) = false := decide_eq_false (by omega)
        have x2 : ¬ j < j := by omega
        clear hw hO hR hT hI d1 d2 d3 hlq hbk hjt
        go_wp2
        go_ret
        exact HW.out
      · have hw : PidsF w b RES (.returned (.slice none 0 0)) (wr.setCell ⟨b, 0, none⟩ (.slice A l.length c)) := by
          rw [HEQ.out]
          rcases hI with ⟨e, hI⟩ | ⟨e, _, e2⟩
          · have d := hI.out htz
            rw [if_pos e, if_neg (by rw [d]; exact htz), d]
            exact ⟨none, 0, rfl, OwnE.nil_ _ _, hbk.at_, hT.set_ rfl _⟩
          · rw [if_neg e, ← e2]
            exact ⟨none, 0, rfl, OwnE.nil_ _ _, hbk.at_, hT.set_ rfl _⟩
        have HW := hide hw
        have x2 : ((t' : Int) == 0) = false := by rw [beq_eq_false_iff_ne]; omega
        have x3 : ((t' : Int) != 0) = true := by simp only [bne_iff_ne, ne_eq]; omega
        have x4 : ¬ ((t' : Int) = 0) := by omega
        by_cases hjl : j < n
        · have x1 : decide ((j : Int) < (n : Int)) = true := decide_eq_true (by omega)
          clear hw hO hR hT hI hlq hbk hjt htz
          go_wp2
          go_ret
          exact HW.out
        · have x1 : decide ((j : Int) < (n : Int)) = false := decide_eq_false (by omega)
          clear hw hO hR hT hI hlq hbk hjt htz
          go_wp2
          go_ret
          exact HW.out
end Go.Proofs.YtjmkecaljkcoiaaDoor
