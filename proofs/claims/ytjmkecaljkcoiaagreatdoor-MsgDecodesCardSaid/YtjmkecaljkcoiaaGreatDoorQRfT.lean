import Derived.Test.YtjmkecaljkcoiaaGreatDoorQRfN
import Derived.Test.YtjmkecaljkcoiaaGreatDoorQCmd6
import Derived.Laws.Rows
import Derived.Test.YtjmkecaljkcoiaaGreatDoorQMsg10M
namespace Go.Proofs.YtjmkecaljkcoiaaGreatDoor
open Go.RowKit Go.Maps
set_option linter.unusedVariables false
set_option linter.unusedSimpArgs false
set_option maxRecDepth 100000 in
set_option maxHeartbeats 1000000 in
theorem xpid_tot (b : Nat) (s : RS) (w : World) (h : RfAt w b s.l s.t) :
    Calls Tryz.prog 55 #[.pointer (some ⟨b, 0, none⟩)] w (ReadsF w b (.agg #[.int .u16 ((pidQ s).1.i : Int), .int .u32 ((pidQ s).1.k : Int)]) (pidQ s).2.l (pidQ s).2.t) := by
  obtain ⟨l, t⟩ := s
  dsimp only at h
  have hbl := h.lt
  obtain ⟨A, c, h⟩ := h
  have h1 := h.alloc (.cells #[.int .u16 0, .int .u32 0] 44)
  obtain ⟨f0, f1⟩ := h1.cells
  have fz := h1.frozen
  have hlc := h.2.2.1
  have hcm := h.2.2.2
  have hbz : Below w.heap.size w (w.alloc (.cells #[.int .u16 0, .int .u32 0] 44)) := (Below.refl _ _).alloc (Nat.le_refl _) _
  by_cases ht : t = 0
  case neg =>
    rw [pidQ_stop (s := ⟨l, t⟩) ht]
    have x1 : ((t : Int) != 0) = true := by simp only [bne_iff_ne, ne_eq]; omega
    have HQ := hide (And.intro h1.at_ ((Turn.refl w b none).alloc (.cells #[.int .u16 0, .int .u32 0] 44)))
    clear h h1 ht
    go_enter Tryz.func55, Tryz.ntmps55
    go_wp2
    refine bodyPost_ret (v := .agg #[.int .u16 0, .int .u32 0]) (by simp [results, Tryz.results55, go_sem]) rfl ⟨rfl, HQ.out.1, HQ.out.2⟩
  subst ht
  have cg := rgpid_any A l.length c l b (w.alloc (.cells #[.int .u16 0, .int .u32 0] 44)) h1.2.1 (by simp; omega) hlc hcm
  have hbd := pidG_bds l
  have hN : pidQ ⟨l, 0⟩ = if (pidG l).2.2.2 = 0 then (prOf l, ⟨l.drop (pidG l).2.2.1, 0⟩) else (default, ⟨l, (pidG l).2.2.2⟩) := by
    unfold pidQ
    rw [if_pos rfl]
  have hpi : (prOf l).i = (pidG l).1 := rfl
  have hpk : (prOf l).k = (pidG l).2.1 := rfl
  unfold GetsP at cg
  generalize prOf l = P at *
  generalize pidG l = r at *
  obtain ⟨i, k, u, e⟩ := r
  dsimp only at cg hbd hN hpi hpk
  unfold maxLen at hcm
  by_cases he : e = 0
  case neg =>
    rw [hN, if_neg he]
    have x1 : ((e : Int) != 0) = true := by simp only [bne_iff_ne, ne_eq]; omega
    clear he hN hbd h hpi hpk
    go_enter Tryz.func55, Tryz.ntmps55
    go_wp2_with fail
    refine cg.mono ?_
    rintro e9 w9 ⟨rfl, hb9⟩
    have h9 := h1.later hb9
    obtain ⟨g0, g1⟩ := h9.cells
    have gz := h9.frozen 1
    have hs9 : w.heap.size < w9.heap.size := by have := hb9.size; simp at this; omega
    have zz : Blk (w.alloc (.cells #[.int .u16 0, .int .u32 0] 44)) w.heap.size #[.int .u16 0, .int .u32 0] 44 := heap_alloc_new w _
    have z9 := zz.later hb9
    have r0 : w9.cell? ⟨w.heap.size, 0, none⟩ = some (.int .u16 0) := z9.cell 0
    have r1 : w9.cell? ⟨w.heap.size, 1, none⟩ = some (.int .u32 0) := z9.cell 1
    have y0 := z9.frozen 0
    have y1 := z9.frozen 1
    have hb9b : b < w9.heap.size := by omega
    have hT : Turn w w9 b none := Turn.of_below (hbz.trans (hb9.mono hbz.size)) _ _
    have q1 := ((((h9.set1 e).other (p := ⟨w.heap.size, 0, none⟩) hbl (.int .u16 0)).other (p := ⟨w.heap.size, 1, none⟩) hbl (.int .u32 0)).alloc (.cells #[.int .u16 i, .int .u32 k] 44)).at_
    have q2 := (((hT.set_ (p := ⟨b, 1, none⟩) rfl (.int .i64 e)).setNew (p := ⟨w.heap.size, 0, none⟩) (Nat.le_refl _) (.int .u16 0)).setNew (p := ⟨w.heap.size, 1, none⟩) (Nat.le_refl _) (.int .u32 0)).alloc (.cells #[.int .u16 i, .int .u32 k] 44)
    have HQ := hide (And.intro q1 q2)
    have zf := (((z9.other (q := ⟨b, 1, none⟩) (by show b ≠ w.heap.size; omega) (.int .i64 e)).set_ 0 (.int .u16 0)).set_ 1 (.int .u32 0)).later ((Below.refl _ _).alloc (Nat.le_refl _) (.cells #[.int .u16 i, .int .u32 k] 44))
    have t0 := zf.cell 0
    have t1 := zf.cell 1
    have HZF := hide (And.intro t0 t1)
    clear cg f0 f1 fz q1 q2 hT h9 h1 zz z9 zf t0 t1
    go_wp2
    obtain ⟨t0, t1⟩ := HZF.out
    simp at t0 t1
    refine bodyPost_ret (v := .agg #[.int .u16 0, .int .u32 0]) (by first | (simp [results, Tryz.results55, go_sem]; done) | (simp [results, Tryz.results55, go_sem, t0, t1])) rfl ⟨rfl, HQ.out.1, HQ.out.2⟩
  subst he
  rw [hN, if_pos rfl]
  have hkl : u ≤ l.length := hbd.2.2.1
  have hi' := hbd.1
  have hk' := hbd.2.1
  dsimp only
  rw [hpi, hpk]
  clear hN hpi hpk hbd h
  go_enter Tryz.func55, Tryz.ntmps55
  go_wp2_with fail
  refine cg.mono ?_
  rintro e9 w9 ⟨rfl, hb9⟩
  have h9 := h1.later hb9
  obtain ⟨g0, g1⟩ := h9.cells
  have gz := h9.frozen 0
  have hs9 : w.heap.size < w9.heap.size := by have := hb9.size; simp at this; omega
  have zz : Blk (w.alloc (.cells #[.int .u16 0, .int .u32 0] 44)) w.heap.size #[.int .u16 0, .int .u32 0] 44 := heap_alloc_new w _
  have z9 := zz.later hb9
  have r0 : w9.cell? ⟨w.heap.size, 0, none⟩ = some (.int .u16 0) := z9.cell 0
  have r1 : w9.cell? ⟨w.heap.size, 1, none⟩ = some (.int .u32 0) := z9.cell 1
  have y0 := z9.frozen 0
  have y1 := z9.frozen 1
  have hb9b : b < w9.heap.size := by omega
  have hT : Turn w w9 b none := Turn.of_below (hbz.trans (hb9.mono hbz.size)) _ _
  have hz := h9.cut hkl
  generalize hn : l.length = q at *
  clear hn
  by_cases hck : c = u
  · obtain rfl : q = u := by omega
    obtain rfl := hck
    rw [if_pos rfl, Nat.sub_self] at hz
    have q1 := (((hz.other (p := ⟨w.heap.size, 0, none⟩) hbl (.int .u16 i)).other (p := ⟨w.heap.size, 1, none⟩) hbl (.int .u32 k)).alloc (.cells #[.int .u16 i, .int .u32 k] 44)).at_
    have q2 := (((hT.set_ (p := ⟨b, 0, none⟩) rfl (.slice A 0 0)).setNew (p := ⟨w.heap.size, 0, none⟩) (Nat.le_refl _) (.int .u16 i)).setNew (p := ⟨w.heap.size, 1, none⟩) (Nat.le_refl _) (.int .u32 k)).alloc (.cells #[.int .u16 i, .int .u32 k] 44)
    have HQ := hide (And.intro q1 q2)
    have zf := (((z9.other (q := ⟨b, 0, none⟩) (by show b ≠ w.heap.size; omega) (.slice A 0 0)).set_ 0 (.int .u16 i)).set_ 1 (.int .u32 k)).later ((Below.refl _ _).alloc (Nat.le_refl _) (.cells #[.int .u16 i, .int .u32 k] 44))
    have t0 := zf.cell 0
    have t1 := zf.cell 1
    have HZF := hide (And.intro t0 t1)
    clear cg f0 f1 fz q1 q2 hT h9 h1 zz z9 hz zf t0 t1
    go_wp2
    obtain ⟨t0, t1⟩ := HZF.out
    simp at t0 t1
    refine bodyPost_ret (v := .agg #[.int .u16 i, .int .u32 k]) (by first | (simp [results, Tryz.results55, go_sem]; done) | (simp [results, Tryz.results55, go_sem, t0, t1])) rfl ⟨rfl, HQ.out.1, HQ.out.2⟩
  · rw [if_neg hck] at hz
    have hlt : u < c := by omega
    have q1 := (((hz.other (p := ⟨w.heap.size, 0, none⟩) hbl (.int .u16 i)).other (p := ⟨w.heap.size, 1, none⟩) hbl (.int .u32 k)).alloc (.cells #[.int .u16 i, .int .u32 k] 44)).at_
    have q2 := (((hT.set_ (p := ⟨b, 0, none⟩) rfl (.slice (A.map (·.add u)) (q - u) (c - u))).setNew (p := ⟨w.heap.size, 0, none⟩) (Nat.le_refl _) (.int .u16 i)).setNew (p := ⟨w.heap.size, 1, none⟩) (Nat.le_refl _) (.int .u32 k)).alloc (.cells #[.int .u16 i, .int .u32 k] 44)
    have HQ := hide (And.intro q1 q2)
    have zf := (((z9.other (q := ⟨b, 0, none⟩) (by show b ≠ w.heap.size; omega) (.slice (A.map (·.add u)) (q - u) (c - u))).set_ 0 (.int .u16 i)).set_ 1 (.int .u32 k)).later ((Below.refl _ _).alloc (Nat.le_refl _) (.cells #[.int .u16 i, .int .u32 k] 44))
    have t0 := zf.cell 0
    have t1 := zf.cell 1
    have HZF := hide (And.intro t0 t1)
    clear cg f0 f1 fz q1 q2 hT h9 h1 zz z9 hz zf t0 t1
    go_wp2
    obtain ⟨t0, t1⟩ := HZF.out
    simp at t0 t1
    refine bodyPost_ret (v := .agg #[.int .u16 i, .int .u32 k]) (by first | (simp [results, Tryz.results55, go_sem]; done) | (simp [results, Tryz.results55, go_sem, t0, t1])) rfl ⟨rfl, HQ.out.1, HQ.out.2⟩
end Go.Proofs.YtjmkecaljkcoiaaGreatDoor
namespace Go.Proofs.YtjmkecaljkcoiaaGreatDoor
open Go.RowKit Go.Maps
set_option linter.unusedVariables false
set_option linter.unusedSimpArgs false
theorem bytS_eq (most : Nat) (s : RS) : bytS most s = if (numS most s).2.t = 0 then (if (numS most s).2.l.length < (numS most s).1 then ([], ⟨s.l, 2⟩) else ((numS most s).2.l.take (numS most s).1, ⟨(numS most s).2.l.drop (numS most s).1, 0⟩)) else ([], ⟨s.l, (numS most s).2.t⟩) := by
  obtain ⟨l, t⟩ := s
  by_cases ht : t = 0
  · subst ht
    by_cases hE : numE l most = 0
    · have e : numS most ⟨l, 0⟩ = ((getF l).1, ⟨l.drop (getF l).2.1, 0⟩) := by unfold numS; rw [if_pos rfl, if_pos hE]
      rw [e]
      simp only [if_true]
      unfold bytS bytE
      simp only [if_true, hE]
      by_cases hl : (l.drop (getF l).2.1).length < (getF l).1
      · rw [if_pos hl, if_pos hl]; simp
      · rw [if_neg hl, if_neg hl]; simp [bytV, bytR]
    · have e : numS most ⟨l, 0⟩ = (0, ⟨l, numE l most⟩) := by unfold numS; rw [if_pos rfl, if_neg hE]
      rw [e]
      simp only [if_neg hE]
      unfold bytS bytE
      simp [hE]
  · rw [numS_stop (s := ⟨l, t⟩) ht, bytS_stop (s := ⟨l, t⟩) ht, if_neg ht]
theorem RfSl.back {w w' : World} {b c c' t t' : Nat} {A A' : Option Addr} {l l' : List UInt8} (h : RfSl w b A c l t) (h' : RfSl w' b A' c' l' t') (ht : Turn w w' b none) : RfSl (w'.setCell ⟨b, 0, none⟩ (.slice A l.length c)) b A c l t' :=
  h'.set0 (h.2.1.keep fun p hp => World.cell?_of_block (ht.block p.block (by have := h.lt; omega) (by omega) (by simp))) h.2.2.1 h.2.2.2
def BytF (w : World) (b : Nat) (r : List UInt8 × RS) (e : Ending) (w' : World) : Prop := ∃ A c, e = .returned (.slice A r.1.length c) ∧ OwnB w' w.heap.size (.slice A r.1.length c) r.1.length r.1 ∧ RfAt w' b r.2.l r.2.t ∧ Turn w w' b none
set_option maxRecDepth 100000 in
set_option maxHeartbeats 1000000 in
theorem xbytes_tot (b most : Nat) (s : RS) (w : World) (h : RfAt w b s.l s.t) (hm : most ≤ 1000000) :
    Calls Tryz.prog 60 #[.pointer (some ⟨b, 0, none⟩), .int .i64 most] w (BytF w b (bytS most s)) := by
  have hEQ := bytS_eq most s
  have cn := xnum_tot b most s w h (by omega)
  have hle := numS_le most s
  generalize bytS most s = RES at *
  generalize numS most s = r at *
  obtain ⟨n, s1⟩ := r
  obtain ⟨l, t⟩ := s
  obtain ⟨l1, t1⟩ := s1
  dsimp only at h hEQ cn hle
  have hbl := h.lt
  obtain ⟨A, c, h⟩ := h
  obtain ⟨f0, f1⟩ := h.cells
  have e1 : max (most : Int) 0 = (most : Int) := by omega
  have e2 : IntKind.u64.wrap (most : Int) = (most : Int) := by rw [IntKind.wrap_u64]; omega
  have HEQ := hide hEQ
  clear hEQ
  go_enter Tryz.func60, Tryz.ntmps60
  go_wp2_with fail
  refine cn.mono ?_
  rintro e w2 ⟨rfl, ⟨A1, c1, h2⟩, ht2⟩
  obtain ⟨g0, g1⟩ := h2.cells
  have gz0 := h2.frozen 0
  have gz1 := h2.frozen 1
  have hbk := h.back h2 ht2
  have hlc := h2.2.2.1
  have hcm := h2.2.2.2
  unfold maxLen at hcm
  clear cn f0 f1 e1 e2
  by_cases ht : t1 = 0
  case neg =>
    have x1 : ((t1 : Int) == 0) = false := by rw [beq_eq_false_iff_ne]; omega
    have x2 : ((t1 : Int) != 0) = true := by simp only [bne_iff_ne, ne_eq]; omega
    have x3 : ¬ ((t1 : Int) = 0) := by omega
    have hq : BytF w b RES (.returned (.slice none 0 0)) (w2.setCell ⟨b, 0, none⟩ (.slice A l.length c)) := by
      rw [HEQ.out, if_neg ht]
      exact ⟨none, 0, rfl, OwnB.nil_ _ _, hbk.at_, ht2.set_ rfl _⟩
    have HQ := hide hq
    clear hq h h2 ht2 hbk ht
    go_wp2
    go_ret
    exact HQ.out
  subst ht
  have e3 : IntKind.u64.wrap (l1.length : Int) = (l1.length : Int) := by rw [IntKind.wrap_u64]; omega
  by_cases hn : l1.length < n
  · have x1 : decide ((l1.length : Int) < (n : Int)) = true := decide_eq_true (by omega)
    have hq : BytF w b RES (.returned (.slice none 0 0)) ((w2.setCell ⟨b, 1, none⟩ (.int .i64 2)).setCell ⟨b, 0, none⟩ (.slice A l.length c)) := by
      rw [HEQ.out, if_pos rfl, if_pos hn]
      exact ⟨none, 0, rfl, OwnB.nil_ _ _, (h.back (h2.set1 2) (ht2.set_ (p := ⟨b, 1, none⟩) rfl _)).at_, (ht2.set_ (p := ⟨b, 1, none⟩) rfl _).set_ rfl _⟩
    have HQ := hide hq
    clear hq h h2 ht2 hbk
    go_wp2
    go_ret
    exact HQ.out
  · have x1 : decide ((l1.length : Int) < (n : Int)) = false := decide_eq_false (by omega)
    have hnl : n ≤ l1.length := by omega
    have hn1 : n ≤ c1 := by omega
    have hA1 := h2.2.1.take hnl
    have hbl2 := h2.lt
    have ht3 : ¬ l1.length < n := hn
    go_wp2_with (at_builtin; refine wp_bytes_own _ rfl (.tmp 44) (.tmp 50) rfl w2.heap.size 0 _ [] rfl (own_lit w2 w2.heap.size 0 [] #[] (by rfl) rfl (by decide) (Nat.le_refl _)) b A1 n c1 (l1.take n) rfl (hA1.alloc (by omega) _) (by omega) w2.heap.size w2 ((Below.refl _ _).alloc (Nat.le_refl _) _) (Nat.le_refl _) (by simp) ?_; intro A2 c2 w3 ho3 hb3 hs3; refine Hid.out ?_)
    refine Lib.hid ?_
    rw [Nat.zero_add, List.nil_append] at ho3
    have h3 := h2.later hb3
    obtain ⟨k0, k1⟩ := h3.cells
    have kz0 := h3.frozen 0
    have hz := h3.cut hnl
    have hT : Turn w w3 b none := ht2.later hb3
    have hlt3 := hb3.size
    have HO := hide (And.intro ho3 (And.intro hT ht2.size))
    have hb3lt : b < w3.heap.size := by omega
    have hres : RES = (l1.take n, ⟨l1.drop n, 0⟩) := by rw [HEQ.out]; first | rw [if_pos rfl, if_neg hn] | rw [if_pos trivial, if_neg hn]
    have HRS := hide hres
    have hlen : (l1.take n).length = n := by rw [List.length_take]; omega
    clear ho3 hT h2 hbk ht2 g0 g1 gz0 gz1 h hA1 hb3 hs3 h3 hres HEQ
    generalize hq : l1.length = q at *
    clear hq
    by_cases hck : c1 = n
    · obtain rfl : q = n := by omega
      obtain rfl := hck
      rw [if_pos rfl, Nat.sub_self] at hz
      have hw : BytF w b RES (.returned (.slice A2 c1 c2)) (w3.setCell ⟨b, 0, none⟩ (.slice A1 0 0)) := by
        rw [HRS.out]
        have ho := OwnB.setOld9 (OwnB.mono HO.out.1 HO.out.2.2) (p := ⟨b, 0, none⟩) hbl (.slice A1 0 0)
        exact ⟨A2, c2, by rw [hlen], by rw [hlen]; exact ho, hz.at_, HO.out.2.1.set_ rfl _⟩
      have HW := hide hw
      clear hw hz HO HRS hlen hnl hn1 ht3 hn
      go_wp2
      go_ret
      exact HW.out
    · rw [if_neg hck] at hz
      have hw : BytF w b RES (.returned (.slice A2 n c2)) (w3.setCell ⟨b, 0, none⟩ (.slice (A1.map (·.add n)) (q - n) (c1 - n))) := by
        rw [HRS.out]
        have ho := OwnB.setOld9 (OwnB.mono HO.out.1 HO.out.2.2) (p := ⟨b, 0, none⟩) hbl (.slice (A1.map (·.add n)) (q - n) (c1 - n))
        exact ⟨A2, c2, by rw [hlen], by rw [hlen]; exact ho, hz.at_, HO.out.2.1.set_ rfl _⟩
      have HW := hide hw
      have hlt : n < c1 := by omega
      clear hw hz HO HRS hlen ht3 hn
      go_wp2
      go_ret
      exact HW.out
end Go.Proofs.YtjmkecaljkcoiaaGreatDoor
namespace Go.Proofs.YtjmkecaljkcoiaaGreatDoor
open Go.RowKit Go.Maps
set_option linter.unusedVariables false
set_option linter.unusedSimpArgs false
set_option maxRecDepth 100000 in
theorem xtruth_tot (b : Nat) (s : RS) (w : World) (h : RfAt w b s.l s.t) :
    Calls Tryz.prog 57 #[.pointer (some ⟨b, 0, none⟩)] w (ReadsF w b (.bool (truS s).1) (truS s).2.l (truS s).2.t) := by
  obtain ⟨l, t⟩ := s
  dsimp only at h
  obtain ⟨A, c, h⟩ := h
  obtain ⟨f0, f1⟩ := h.cells
  have fz := h.frozen
  have hlc := h.2.2.1
  have hcm := h.2.2.2
  unfold maxLen at hcm
  by_cases ht : t = 0
  case neg =>
    rw [truS_stop (s := ⟨l, t⟩) ht]
    have hq : ReadsF w b (.bool false) l t (.returned (.bool false)) w := ⟨rfl, h.at_, Turn.refl _ _ _⟩
    have HQ := hide hq
    have x1 : ((t : Int) != 0) = true := by simp only [bne_iff_ne, ne_eq]; omega
    clear h hq ht
    go_enter Tryz.func57, Tryz.ntmps57
    go_wp2
    go_ret
    exact HQ.out
  subst ht
  have f1' : w.cell? ⟨b, 1, none⟩ = some (.int .i64 0) := f1
  clear f1
  rcases l with _ | ⟨x, l⟩
  · have hN : truS ⟨[], 0⟩ = (false, ⟨[], 2⟩) := rfl
    rw [hN]
    have f0' : w.cell? ⟨b, 0, none⟩ = some (.slice A 0 c) := f0
    have hq : ReadsF w b (.bool false) [] 2 (.returned (.bool false)) (w.setCell ⟨b, 1, none⟩ (.int .i64 2)) := ⟨rfl, (h.set1 2).at_, (Turn.refl _ _ _).set_ rfl _⟩
    have HQ := hide hq
    have fz1 := fz 1
    clear h hq fz f0
    go_enter Tryz.func57, Tryz.ntmps57
    go_wp2
    go_ret
    exact HQ.out
  · have hx := x.toNat_lt
    obtain ⟨ad, hl0, e0, hbl, hcc⟩ := h.2.1.at_ (k := 0) (by simp)
    subst e0
    have c0 : w.cell? ad = some (.int .u8 x.toNat) := by
      have e : ad.add 0 = ad := by cases ad; rfl
      rw [e] at hcc
      exact hcc
    have hz := h.cut (k := 1) (by simp)
    have hbad : ReadsF w b (.bool false) (x :: l) 5 (.returned (.bool false)) (w.setCell ⟨b, 1, none⟩ (.int .i64 5)) := ⟨rfl, (h.set1 5).at_, (Turn.refl _ _ _).set_ rfl _⟩
    have hE : truE (x :: l) = if 1 < x.toNat then 5 else 0 := rfl
    have hV : truV (x :: l) = decide (x.toNat = 1) := rfl
    have hS : truS ⟨x :: l, 0⟩ = if truE (x :: l) = 0 then (truV (x :: l), ⟨(x :: l).drop 1, 0⟩) else (false, ⟨x :: l, truE (x :: l)⟩) := by unfold truS; rw [if_pos rfl]
    rw [hS, hE, hV]
    clear hcc hS hE hV h hl0
    have fz0 := fz 0
    have fz1 := fz 1
    have hq0 : 0 < (x :: l).length := by simp
    generalize x.toNat = n at *
    generalize (x :: l).drop 1 = M at *
    generalize x :: l = L at *
    generalize L.length = q at *
    have hbn := hbl
    by_cases h5 : 1 < n
    · have hN : (if (if 1 < n then 5 else 0) = 0 then (decide (n = 1), (⟨M, 0⟩ : RS)) else (false, ⟨L, if 1 < n then 5 else 0⟩)) = (false, ⟨L, 5⟩) := by rw [if_pos h5]; rfl
      rw [hN]
      have HQ := hide hbad
      have x1 : decide ((1 : Int) < (n : Int)) = true := decide_eq_true (by omega)
      clear hN hz hbad fz
      go_enter Tryz.func57, Tryz.ntmps57
      go_wp2
      go_ret
      exact HQ.out
    · have hN : (if (if 1 < n then 5 else 0) = 0 then (decide (n = 1), (⟨M, 0⟩ : RS)) else (false, ⟨L, if 1 < n then 5 else 0⟩)) = (decide (n = 1), ⟨M, 0⟩) := by rw [if_neg h5]; rfl
      rw [hN]
      have x1 : decide ((1 : Int) < (n : Int)) = false := decide_eq_false (by omega)
      obtain ⟨v, hv⟩ : ∃ v : Bool, v = decide (n = 1) := ⟨_, rfl⟩
      have x2 : ((n : Int) == 1) = v := by rw [hv, Bool.eq_iff_iff]; simp; omega
      rw [← hv]
      clear hN hbad fz hv h5
      by_cases hck : c = 1
      · obtain rfl : q = 1 := by omega
        subst hck
        rw [if_pos rfl, Nat.sub_self] at hz
        have hq : ReadsF w b (.bool v) M 0 (.returned (.bool v)) (w.setCell ⟨b, 0, none⟩ (.slice (some ad) 0 0)) := ⟨rfl, hz.at_, (Turn.refl _ _ _).set_ rfl _⟩
        have HQ := hide hq
        clear hz hq
        go_enter Tryz.func57, Tryz.ntmps57
        go_wp2
        go_ret
        exact HQ.out
      · rw [if_neg hck] at hz
        have hq : ReadsF w b (.bool v) M 0 (.returned (.bool v)) (w.setCell ⟨b, 0, none⟩ (.slice (some (ad.add 1)) (q - 1) (c - 1))) := ⟨rfl, hz.at_, (Turn.refl _ _ _).set_ rfl _⟩
        have HQ := hide hq
        have hlt : 1 < c := by omega
        clear hz hq
        go_enter Tryz.func57, Tryz.ntmps57
        go_wp2
        go_ret
        exact HQ.out
set_option maxRecDepth 100000 in
theorem balS_eq (s : RS) : balS s = if (pidQ (numS 4294967295 s).2).2.t = 0 then (⟨(numS 4294967295 s).1 % 4294967296, (pidQ (numS 4294967295 s).2).1, Nat.mod_lt _ (by decide)⟩, (pidQ (numS 4294967295 s).2).2) else (default, ⟨s.l, (pidQ (numS 4294967295 s).2).2.t⟩) := by
  obtain ⟨l, t⟩ := s
  by_cases ht : t = 0
  · subst ht
    by_cases hE : numE l 4294967295 = 0
    · have e1 : numS 4294967295 ⟨l, 0⟩ = ((getF l).1, ⟨l.drop (getF l).2.1, 0⟩) := by unfold numS; rw [if_pos rfl, if_pos hE]
      rw [e1]
      by_cases hP : (pidG (l.drop (getF l).2.1)).2.2.2 = 0
      · have e2 : pidQ ⟨l.drop (getF l).2.1, 0⟩ = (prOf (l.drop (getF l).2.1), ⟨(l.drop (getF l).2.1).drop (pidG (l.drop (getF l).2.1)).2.2.1, 0⟩) := by unfold pidQ; rw [if_pos rfl, if_pos hP]
        rw [e2, if_pos rfl]
        unfold balS
        rw [if_pos rfl, if_pos (by unfold balE; rw [if_pos hE]; exact hP)]
        rfl
      · have e2 : pidQ ⟨l.drop (getF l).2.1, 0⟩ = (default, ⟨l.drop (getF l).2.1, (pidG (l.drop (getF l).2.1)).2.2.2⟩) := by unfold pidQ; rw [if_pos rfl, if_neg hP]
        rw [e2, if_neg hP]
        unfold balS
        rw [if_pos rfl, if_neg (by unfold balE; rw [if_pos hE]; exact hP)]
        unfold balE
        rw [if_pos hE]
    · have e1 : numS 4294967295 ⟨l, 0⟩ = (0, ⟨l, numE l 4294967295⟩) := by unfold numS; rw [if_pos rfl, if_neg hE]
      rw [e1]
      have e2 : pidQ ⟨l, numE l 4294967295⟩ = (default, ⟨l, numE l 4294967295⟩) := pidQ_stop hE
      rw [e2, if_neg hE]
      unfold balS
      rw [if_pos rfl, if_neg (by unfold balE; rw [if_neg hE]; exact hE)]
      unfold balE
      rw [if_neg hE]
  · rw [balS_stop (s := ⟨l, t⟩) ht, numS_stop (s := ⟨l, t⟩) ht, pidQ_stop (s := ⟨l, t⟩) ht, if_neg ht]
set_option maxRecDepth 100000 in
theorem xballot_tot (b : Nat) (s : RS) (w : World) (h : RfAt w b s.l s.t) :
    Calls Tryz.prog 56 #[.pointer (some ⟨b, 0, none⟩)] w (ReadsF w b (.agg #[.int .u32 ((balS s).1.r : Int), .int .u16 ((balS s).1.p.i : Int), .int .u32 ((balS s).1.p.k : Int)]) (balS s).2.l (balS s).2.t) := by
  have hbz : Below w.heap.size w (w.alloc (.cells #[.int .u32 0, .int .u16 0, .int .u32 0] 46)) := (Below.refl _ _).alloc (Nat.le_refl _) _
  have hbl := h.lt
  have h1 := h.alloc (.cells #[.int .u32 0, .int .u16 0, .int .u32 0] 46)
  have cn := xnum_tot b 4294967295 s _ h1 (by decide)
  have hle := numS_le 4294967295 s
  have hB := balS_eq s
  obtain ⟨r, hr⟩ : ∃ r, r = numS 4294967295 s := ⟨_, rfl⟩
  rw [← hr] at cn hB hle
  obtain ⟨q, hq⟩ : ∃ q, q = pidQ r.2 := ⟨_, rfl⟩
  rw [← hq] at hB
  have HQ := hide hq
  obtain ⟨A, c, h0⟩ := h1
  obtain ⟨f0, f1⟩ := h0.cells
  have zz : Blk (w.alloc (.cells #[.int .u32 0, .int .u16 0, .int .u32 0] 46)) w.heap.size #[.int .u32 0, .int .u16 0, .int .u32 0] 46 := heap_alloc_new w _
  have HB := hide hB
  have h1 := h0
  clear hr hq h hB
  generalize hw1 : w.alloc (.cells #[.int .u32 0, .int .u16 0, .int .u32 0] 46) = w1 at *
  obtain ⟨n, s1⟩ := r
  obtain ⟨p, s2⟩ := q
  dsimp only at cn hle
  have wr : IntKind.u32.wrap (n : Int) = (n : Int) := by rw [IntKind.wrap_u32]; omega
  go_enter Tryz.func56, Tryz.ntmps56
  go_wp2_with fail
  refine cn.mono ?_
  rintro e w2 ⟨rfl, h2, t2⟩
  have cp := xpid_tot b s1 w2 h2
  rw [← HQ.out] at cp
  have z2 := zz.turn t2 (by omega) (by simp)
  have T2 : Turn w w2 b none := Turn.ahead hbz t2
  clear cn hw1 f0 f1
  go_wp2_with fail
  refine cp.mono ?_
  rintro e w3 ⟨rfl, ⟨A3, c3, h3⟩, t3⟩
  have z3 := z2.turn t3 (by omega) (by simp)
  have T3 : Turn w w3 b none := T2.trans t3 (Mov.refl _ _)
  have hbk := h1.back h3 (t2.trans t3 (Mov.refl _ _))
  obtain ⟨g0, g1⟩ := h3.cells
  have gz := h3.frozen
  have zl := z3.lt
  have zfz := z3.frozen
  have y0 : w3.cell? ⟨w.heap.size, 0, none⟩ = some (.int .u32 0) := z3.cell 0
  have y1 : w3.cell? ⟨w.heap.size, 1, none⟩ = some (.int .u16 0) := z3.cell 1
  have y2 : w3.cell? ⟨w.heap.size, 2, none⟩ = some (.int .u32 0) := z3.cell 2
  have hl3 := h3.lt
  clear cp h2 t2 t3 z2 T2
  by_cases ht : s2.t = 0
  · have x1 : ((s2.t : Int) != 0) = false := by rw [ht]; rfl
    have hres : balS s = (⟨n % 4294967296, p, Nat.mod_lt _ (by decide)⟩, s2) := by rw [HB.out, if_pos ht]
    have hmod : n % 4294967296 = n := Nat.mod_eq_of_lt (by omega)
    have HR := hide (And.intro hres hmod)
    clear hres hmod ht
    have hd := (((h3.at_.other (p := ⟨w.heap.size, 0, none⟩) hbl (.int .u32 n)).other (p := ⟨w.heap.size, 1, none⟩) hbl (.int .u16 p.i)).other (p := ⟨w.heap.size, 2, none⟩) hbl (.int .u32 p.k)).alloc (.cells #[.int .u16 p.i, .int .u32 p.k] 44)
    have hT := (((T3.setNew (p := ⟨w.heap.size, 0, none⟩) (Nat.le_refl _) (.int .u32 n)).setNew (p := ⟨w.heap.size, 1, none⟩) (Nat.le_refl _) (.int .u16 p.i)).setNew (p := ⟨w.heap.size, 2, none⟩) (Nat.le_refl _) (.int .u32 p.k)).alloc (.cells #[.int .u16 p.i, .int .u32 p.k] 44)
    have hv : Blk _ w.heap.size #[.int .u32 n, .int .u16 p.i, .int .u32 p.k] 46 := (((z3.set_ 0 (.int .u32 n)).set_ 1 (.int .u16 p.i)).set_ 2 (.int .u32 p.k)).later ((Below.refl _ _).alloc (Nat.le_refl _) (.cells #[.int .u16 p.i, .int .u32 p.k] 44))
    have HD := hide (And.intro hd hT)
    have HV := hide hv
    clear hd hT hv
    go_wp2
    refine bodyPost_ret (v := .agg #[.int .u32 n, .int .u16 p.i, .int .u32 p.k]) (results_cell_row Tryz.results56 _ _ (w.heap.size) _ _ _ _ rfl HV.out Tryz.underlying46 rfl rfl) rfl ?_
    rw [HR.out.1]
    refine ⟨?_, HD.out.1, HD.out.2⟩
    show _ = Ending.returned (Value.agg #[.int .u32 ((n % 4294967296 : Nat) : Int), .int .u16 p.i, .int .u32 p.k])
    rw [HR.out.2]
  · have x1 : ((s2.t : Int) != 0) = true := by rw [bne_iff_ne]; omega
    have hres : balS s = (default, ⟨s.l, s2.t⟩) := by rw [HB.out, if_neg ht]
    have HR := hide hres
    clear hres ht
    have hd := (((hbk.at_.other (p := ⟨w.heap.size, 0, none⟩) hbl (.int .u32 0)).other (p := ⟨w.heap.size, 1, none⟩) hbl (.int .u16 0)).other (p := ⟨w.heap.size, 2, none⟩) hbl (.int .u32 0)).alloc (.cells #[.int .u16 p.i, .int .u32 p.k] 44)
    have hT := ((((T3.set_ (p := ⟨b, 0, none⟩) rfl (.slice A s.l.length c)).setNew (p := ⟨w.heap.size, 0, none⟩) (Nat.le_refl _) (.int .u32 0)).setNew (p := ⟨w.heap.size, 1, none⟩) (Nat.le_refl _) (.int .u16 0)).setNew (p := ⟨w.heap.size, 2, none⟩) (Nat.le_refl _) (.int .u32 0)).alloc (.cells #[.int .u16 p.i, .int .u32 p.k] 44)
    have hv : Blk _ w.heap.size #[.int .u32 0, .int .u16 0, .int .u32 0] 46 := ((((z3.other (q := ⟨b, 0, none⟩) (by simp; omega) (.slice A s.l.length c)).set_ 0 (.int .u32 0)).set_ 1 (.int .u16 0)).set_ 2 (.int .u32 0)).later ((Below.refl _ _).alloc (Nat.le_refl _) (.cells #[.int .u16 p.i, .int .u32 p.k] 44))
    have HD := hide (And.intro hd hT)
    have HV := hide hv
    clear hd hT hv
    go_wp2
    refine bodyPost_ret (v := .agg #[.int .u32 0, .int .u16 0, .int .u32 0]) (results_cell_row Tryz.results56 _ _ (w.heap.size) _ _ _ _ rfl HV.out Tryz.underlying46 rfl rfl) rfl ?_
    rw [HR.out]
    exact ⟨rfl, HD.out.1, HD.out.2⟩
end Go.Proofs.YtjmkecaljkcoiaaGreatDoor
