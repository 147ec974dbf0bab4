/-
  Layer 8: masks, quorums and leaves, the document's too.
-/
import Derived.Test.YthloamhodapmpaaViewA
import Derived.Test.YthloamhodapmpaaMask7
import Derived.Test.YthloamhodapmpaaQRow
namespace Go.Proofs.Ythloamhodapmpaa
open Go.RowKit Go.Maps
set_option linter.unusedVariables false
set_option linter.unusedSimpArgs false

set_option maxRecDepth 100000 in
theorem rleaf_any (x : Vw) (p : Pr) (B : Nat) (w : World) (h : VwIn w B x) (hB : B ≤ w.heap.size) :
    Calls Try.prog 16 #[.agg #[.int .u64 (x.id : Int), .slice x.A x.m x.c, .slice x.B x.d x.e, .slice x.C x.f x.g], .agg #[.int .u16 (p.i : Int), .int .u32 (p.k : Int)]] w fun e w' => e = .returned (.int .i64 (lfI x.v.lvs p)) ∧ Below w.heap.size w w' := by
  obtain ⟨id, A, m, c, l, B', d, e, q, C, f, g, r⟩ := x
  have v0 : VAt ((w.alloc (.cells #[.int .u64 (id : Int), .slice A m c, .slice B' d e, .slice C f g] 26)).alloc (.cells #[.int .u16 (p.i : Int), .int .u32 (p.k : Int)] 34)) w.heap.size ⟨id, A, m, c, l, B', d, e, q, C, f, g, r⟩ := (VAt.mk_ w ⟨id, A, m, c, l, B', d, e, q, C, f, g, r⟩).alloc _
  have hbz : Below w.heap.size w ((w.alloc (.cells #[.int .u64 (id : Int), .slice A m c, .slice B' d e, .slice C f g] 26)).alloc (.cells #[.int .u16 (p.i : Int), .int .u32 (p.k : Int)] 34)) := ((Below.refl _ _).alloc (Nat.le_refl _) _).alloc (by simp) _
  have g0 : ((w.alloc (.cells #[.int .u64 (id : Int), .slice A m c, .slice B' d e, .slice C f g] 26)).alloc (.cells #[.int .u16 (p.i : Int), .int .u32 (p.k : Int)] 34)).cell? ⟨w.heap.size + 1, 0, none⟩ = some (.int .u16 (p.i : Int)) := by go_simp
  have g1 : ((w.alloc (.cells #[.int .u64 (id : Int), .slice A m c, .slice B' d e, .slice C f g] 26)).alloc (.cells #[.int .u16 (p.i : Int), .int .u32 (p.k : Int)] 34)).cell? ⟨w.heap.size + 1, 1, none⟩ = some (.int .u32 (p.k : Int)) := by go_simp
  obtain ⟨i1, i2, i3, i4, i5, i6, i7, i8, i9, i10, i11⟩ := h
  simp only [Vw.v]
  dsimp only at *
  have hlen := i5.len
  have hd63 := Nat.le_trans i6 i7
  unfold maxLen at hd63
  obtain ⟨lvs, hlv⟩ : ∃ lvs, lvs = q.map Lf.l := ⟨_, rfl⟩
  rw [← hlv]
  have hll : lvs.length = d := by rw [hlv, List.length_map, hlen]
  have hat : ∀ k (h1 : k < q.length) (h2 : k < lvs.length), lvs[k] = q[k].l := fun k h1 h2 => by simp [hlv]
  obtain ⟨a, ha⟩ : ∃ a, a = lfI lvs p := ⟨_, rfl⟩
  rw [← ha]
  have HR := hide ha
  have HL := hide (And.intro hlen hll)
  have HAT := hide hat
  have HIN := hide i8
  have s0 := NotL.start p lvs
  clear hlen hlv hll hat i8 ha
  go_enter Try.func16, Try.ntmps16
  go_wp2
  go_loopw [5] (fun i wr => ∃ j : Nat, j ≤ d ∧ i = .int .i64 j ∧ NotL p lvs j ∧ VAt wr w.heap.size ⟨id, A, m, c, l, B', d, e, q, C, f, g, r⟩ ∧ wr.cell? ⟨w.heap.size + 1, 0, none⟩ = some (.int .u16 (p.i : Int)) ∧ wr.cell? ⟨w.heap.size + 1, 1, none⟩ = some (.int .u32 (p.k : Int)) ∧ Below w.heap.size w wr) (fun i _ => d - (intOf i).toNat)
  case atStart => exact ⟨0, Nat.zero_le _, rfl, s0, v0, g0, g1, hbz⟩
  case round =>
    clear s0 v0 g0 g1 hbz
    obtain ⟨j, hj, rfl, hno, vx, p0, p1, hb⟩ := hrel
    obtain ⟨k0, k1, k2, k3⟩ := vx.cells
    dsimp only at k0 k1 k2 k3
    by_cases hlt : j < d
    · obtain ⟨ad, hl, rfl, hbl, hc⟩ := (i5.below (hb.mono hB)).at_ lfOk hlt
      have hlj : j < lvs.length := by rw [HL.out.2]; exact hlt
      have hyl := HAT.out j hl hlj
      have hhit := hno.hit hlj
      have hstep := hno.step hlj
      rw [hyl] at hhit hstep
      have hy := HIN.out q[j] (List.getElem_mem hl)
      obtain ⟨z, hz⟩ : ∃ z, z = q[j] := ⟨_, rfl⟩
      rw [← hz] at hc hhit hstep hy
      have e0 := Later.cellAt (lf_at hc)
      have g0 := Later.cell k0
      have g1 := Later.cell k1
      have g2 := Later.cell k2
      have g3 := Later.cell k3
      have g4 := Later.cell p0
      have g5 := Later.cell p1
      have z1 : (0 : Int) ≤ (j : Int) := by omega
      have z2 : (j : Int) < (d : Int) := by omega
      have ca := fun Z : Later wr => calm_of (rat_any z.A z.m z.c z.l B p Z.w (hy.below ((hb.trans (Z.below.mono hb.size)).mono hB)).es (Nat.le_trans hB (Nat.le_trans hb.size Z.below.size)) (Nat.le_trans hy.mc hy.room))
      have hap := atI_pos z.l p
      have hal := atI_lt z.l p
      clear hz hc hyl hno hy
      generalize atI z.l p = s at *
      by_cases hs : 0 ≤ s
      · have hh := HR.out.trans (hhit (hap.1 hs))
        have HH := hide hh
        have y1 : decide ((0 : Int) ≤ s) = true := decide_eq_true hs
        clear hhit hstep hh hap
        go_wp2_with fail
        refine wp_region_calm (by kernel_rfl) (by kernel_rfl) ?_
        repeat (go_big_quiet_step (first | (go_at_call 14; with_reducible exact ca _)))
        refine wpQuiet_nil ?_
        rintro _ ⟨x9, rfl⟩
        have hb9 := x9.below
        generalize x9.w = w9 at hb9 ⊢
        have hb10 := hb.trans (hb9.mono hb.size)
        clear ca e0 g0 g1 g2 g3 g4 g5 k0 k1 k2 k3 p0 p1
        go_wp2
        go_ret
        exact ⟨ret_int HH.out.symm, hb10⟩
      · have hst := hstep (fun h => hs (hap.2 h))
        have HS := hide hst
        have y1 : decide ((0 : Int) ≤ s) = false := decide_eq_false hs
        clear hhit hstep hst hap
        go_wp2_with fail
        refine wp_region_calm (by kernel_rfl) (by kernel_rfl) ?_
        repeat (go_big_quiet_step (first | (go_at_call 14; with_reducible exact ca _)))
        refine wpQuiet_nil ?_
        rintro _ ⟨x9, rfl⟩
        have hb9 := x9.below
        have q0 := g4 x9
        have q1 := g5 x9
        generalize x9.w = w9 at hb9 q0 q1 ⊢
        have hb10 := hb.trans (hb9.mono hb.size)
        have v10 := vx.later hb9
        clear ca e0 g0 g1 g2 g3 g4 g5 k0 k1 k2 k3 p0 p1
        go_wp2
        go_roundw
        case rel => exact ⟨j + 1, by omega, by go_num, HS.out, v10, q0, q1, hb10⟩
        case measure => simp [intOf]; omega
    · have hf := hno.out_ (by rw [HL.out.2]; omega)
      have HI := hide (HR.out.trans hf)
      clear hf
      go_wp2
      go_ret
      exact ⟨ret_int HI.out.symm, hb⟩
set_option maxRecDepth 100000 in
theorem vmask_any (x : Vw) (A2 : Option Addr) (n c2 : Nat) (k : List Pr) (B B2 : Nat) (w : World) (h : VwIn w B x) (hm40 : x.m ≤ 40) (hB : B ≤ w.heap.size) (hA : Es prC w B2 A2 n k) (hB2 : B2 ≤ w.heap.size) (hn : n ≤ 1000000) :
    Calls Try.prog 19 #[.agg #[.int .u64 (x.id : Int), .slice x.A x.m x.c, .slice x.B x.d x.e, .slice x.C x.f x.g], .slice A2 n c2] w fun e w' => e = .returned (.agg #[.int .u64 ((rkA x.l k : Nat) : Int), .int .u64 ((rkB x.l k : Nat) : Int)]) ∧ Below w.heap.size w w' := by
  obtain ⟨id, A, m, c, l, B', d, e, q, C, f, g, r⟩ := x
  have hbz : Below w.heap.size w ((w.alloc (.cells #[.int .u64 (id : Int), .slice A m c, .slice B' d e, .slice C f g] 26)).alloc (.cells #[.int .u64 0, .int .u64 0] 39)) := ((Below.refl _ _).alloc (Nat.le_refl _) _).alloc (by simp) _
  have m0 : MAt ((w.alloc (.cells #[.int .u64 (id : Int), .slice A m c, .slice B' d e, .slice C f g] 26)).alloc (.cells #[.int .u64 0, .int .u64 0] 39)) (w.heap.size + 1) 0 0 := by
    have := MAt.mk_ (w.alloc (.cells #[.int .u64 (id : Int), .slice A m c, .slice B' d e, .slice C f g] 26)) 0 0
    rw [World.size_alloc] at this
    exact this
  have hlen := h.es.len
  have cr := ranksOf_any A m c l B _ (h.es.below (hbz.mono hB)) (Nat.le_trans hB hbz.size) (by dsimp only at hm40; omega)
  clear h
  dsimp only at *
  unfold RanksP at cr
  obtain ⟨a1, ha1⟩ : ∃ a, a = rkA l k := ⟨_, rfl⟩
  obtain ⟨a2, ha2⟩ : ∃ a, a = rkB l k := ⟨_, rfl⟩
  rw [← ha1, ← ha2]
  have HAA := hide (And.intro ha1 ha2)
  clear ha1 ha2
  go_enter Try.func19, Try.ntmps19
  go_wp2_with fail
  refine cr.mono ?_
  rintro e w1 ⟨b, rfl, hpl, hbb, hbl, hb1⟩
  have hb2 := hbz.trans (hb1.mono hbz.size)
  have m1 := m0.later hb1
  have cm := maskOf_any b l.length l A2 n c2 k B2 w1 hpl (hA.below (hb2.mono hB2)) (Nat.le_trans hB2 hb2.size) hn (by omega)
  clear hbz hb1 m0 cr hpl hA
  rw [← HAA.out.1, ← HAA.out.2] at cm
  go_wp2_with fail
  refine cm.mono ?_
  rintro e w2 ⟨rfl, hb1⟩
  have hb3 := hb2.trans (hb1.mono hb2.size)
  have m2 := m1.later hb1
  have d0 := m2.c0
  have d1 := m2.c1
  have d2 := m2.fz 0
  have d3 := m2.fz 1
  have d4 := m2.lt
  have s1 := m2.set_ a1 a2
  have s2 : Below w.heap.size w ((w2.setCell ⟨w.heap.size + 1, 0, none⟩ (.int .u64 (a1 : Int))).setCell ⟨w.heap.size + 1, 1, none⟩ (.int .u64 (a2 : Int))) := (hb3.setCell (by simp) _).setCell (by simp) _
  have t0 := s1.c0
  have t1 := s1.c1
  have HT := hide (And.intro t0 (And.intro t1 s2))
  clear hb1 hb2 hb3 m1 m2 cm s1 t0 t1 s2
  go_wp2
  obtain ⟨t0, t1, s2⟩ := HT.out
  clear d0 d1 d2 d3 HT
  generalize ((w2.setCell ⟨w.heap.size + 1, 0, none⟩ (.int .u64 (a1 : Int))).setCell ⟨w.heap.size + 1, 1, none⟩ (.int .u64 (a2 : Int))) = w9 at t0 t1 s2 ⊢
  exact bodyPost_ret (v := .agg #[.int .u64 (a1 : Int), .int .u64 (a2 : Int)]) (by simp [results, Try.results19, go_sem, t0, t1]) rfl ⟨rfl, s2⟩
set_option maxRecDepth 100000 in
theorem rquorum8_any (x : Vw) (A2 : Option Addr) (n c2 : Nat) (k : List Pr) (B B2 : Nat) (w : World) (h : VwIn w B x) (hf40 : x.f ≤ 40) (hB : B ≤ w.heap.size) (hA : Es prC w B2 A2 n k) (hB2 : B2 ≤ w.heap.size) (hn : n ≤ maxLen) :
    Calls Try.prog 22 #[.agg #[.int .u64 (x.id : Int), .slice x.A x.m x.c, .slice x.B x.d x.e, .slice x.C x.f x.g], .slice A2 n c2] w fun e w' => e = .returned (.bool (quoB x.r k)) ∧ Below w.heap.size w w' := by
  obtain ⟨id, A, m, c, l, B', d, e, q, C, f, g, r⟩ := x
  have v0 : VAt (w.alloc (.cells #[.int .u64 (id : Int), .slice A m c, .slice B' d e, .slice C f g] 26)) w.heap.size ⟨id, A, m, c, l, B', d, e, q, C, f, g, r⟩ := VAt.mk_ w ⟨id, A, m, c, l, B', d, e, q, C, f, g, r⟩
  have hbz : Below w.heap.size w (w.alloc (.cells #[.int .u64 (id : Int), .slice A m c, .slice B' d e, .slice C f g] 26)) := (Below.refl _ _).alloc (Nat.le_refl _) _
  obtain ⟨i1, i2, i3, i4, i5, i6, i7, i8, i9, i10, i11⟩ := h
  dsimp only at *
  have hlen := i9.len
  obtain ⟨u, hu⟩ : ∃ u, u = quoB r k := ⟨_, rfl⟩
  rw [← hu]
  have HU := hide (And.intro hu hlen)
  have s0 := QuoTo.start r k
  have hfg := Nat.le_trans i10 i11
  clear hu hlen i8
  go_enter Try.func22, Try.ntmps22
  go_wp2
  go_loopw [5, 6] (fun v i wr => ∃ j s : Nat, j ≤ f ∧ i = .int .i64 j ∧ v = .int .i64 s ∧ s ≤ j ∧ QuoTo r k j s ∧ VAt wr w.heap.size ⟨id, A, m, c, l, B', d, e, q, C, f, g, r⟩ ∧ Below w.heap.size w wr) (fun _ i _ => f - (intOf i).toNat)
  case atStart => exact ⟨0, 0, Nat.zero_le _, rfl, rfl, Nat.le_refl _, s0, v0, hbz⟩
  case round =>
    clear s0 v0 hbz
    obtain ⟨j, s, hj, rfl, rfl, hsj, hq, vx, hb⟩ := hrel
    obtain ⟨k0, k1, k2, k3⟩ := vx.cells
    dsimp only at k0 k1 k2 k3
    by_cases hlt : j < f
    · obtain ⟨ad, hl, rfl, hbl, hc⟩ := (i9.below (hb.mono hB)).at_ prOk hlt
      have s1 := fun h1 h2 => hq.yes hl h1 h2
      have s2 := fun h1 => hq.twice hl h1
      have s3 := fun h1 => hq.no hl h1
      have hin := List.getElem_mem hl
      obtain ⟨p, hp⟩ : ∃ p, p = r[j] := ⟨_, rfl⟩
      rw [← hp] at hc s1 s2 s3 hin
      obtain ⟨d0, d1⟩ := pr_at hc
      have e0 := Later.cellAt d0
      have e1 := Later.cellAt d1
      have g0 := Later.cell k0
      have g1 := Later.cell k1
      have g2 := Later.cell k2
      have g3 := Later.cell k3
      have z1 : (0 : Int) ≤ (j : Int) := by omega
      have z2 : (j : Int) < (f : Int) := by omega
      have ca := fun Z : Later wr => calm_of (rat_any (some ad) f g r B p Z.w (i9.below ((hb.trans (Z.below.mono hb.size)).mono hB)) (Nat.le_trans hB (Nat.le_trans hb.size Z.below.size)) hfg)
      have cb := fun Z : Later wr => calm_of (rat_any A2 n c2 k B2 p Z.w (hA.below ((hb.trans (Z.below.mono hb.size)).mono hB2)) (Nat.le_trans hB2 (Nat.le_trans hb.size Z.below.size)) hn)
      rw [atI_in hin] at ca
      have hap := atI_pos k p
      clear hp hc hq hin d0 d1
      generalize plc r p = a at *
      generalize atI k p = b at *
      by_cases haj : a = j
      · subst haj
        by_cases hb0 : 0 ≤ b
        · have hst := s1 rfl (hap.1 hb0)
          have HS := hide hst
          have y1 : decide ((0 : Int) ≤ b) = true := decide_eq_true hb0
          clear s1 s2 s3 hst hap hb0
          go_wp2_with fail
          refine wp_region_calm (by kernel_rfl) (by kernel_rfl) ?_
          repeat (go_big_quiet_step (first | (go_at_call 14; with_reducible exact ca _) | (go_at_call 14; with_reducible exact cb _)))
          refine wpQuiet_nil ?_
          rintro _ ⟨x9, rfl⟩
          have hb9 := x9.below
          generalize x9.w = w9 at hb9 ⊢
          have hb10 := hb.trans (hb9.mono hb.size)
          have v10 := vx.later hb9
          clear ca cb e0 e1 g0 g1 g2 g3 k0 k1 k2 k3
          go_wp2
          go_roundw
          case rel => exact ⟨a + 1, s + 1, by omega, by go_num, by go_num, by omega, HS.out, v10, hb10⟩
          case measure => simp [intOf]; omega
        · have hst := s3 (fun h => hb0 (hap.2 h))
          have HS := hide hst
          have y1 : decide ((0 : Int) ≤ b) = false := decide_eq_false hb0
          clear s1 s2 s3 hst hap hb0
          go_wp2_with fail
          refine wp_region_calm (by kernel_rfl) (by kernel_rfl) ?_
          repeat (go_big_quiet_step (first | (go_at_call 14; with_reducible exact ca _) | (go_at_call 14; with_reducible exact cb _)))
          refine wpQuiet_nil ?_
          rintro _ ⟨x9, rfl⟩
          have hb9 := x9.below
          generalize x9.w = w9 at hb9 ⊢
          have hb10 := hb.trans (hb9.mono hb.size)
          have v10 := vx.later hb9
          clear ca cb e0 e1 g0 g1 g2 g3 k0 k1 k2 k3
          go_wp2
          go_roundw
          case rel => exact ⟨a + 1, s, by omega, by go_num, rfl, by omega, HS.out, v10, hb10⟩
          case measure => simp [intOf]; omega
      · have hst := s2 haj
        have HS := hide hst
        have y1 : ((a : Int) == (j : Int)) = false := by simp only [beq_eq_false_iff_ne, ne_eq]; omega
        clear s1 s2 s3 hst hap
        go_wp2_with fail
        refine wp_region_calm (by kernel_rfl) (by kernel_rfl) ?_
        repeat (go_big_quiet_step (first | (go_at_call 14; with_reducible exact ca _) | (go_at_call 14; with_reducible exact cb _)))
        refine wpQuiet_nil ?_
        rintro _ ⟨x9, rfl⟩
        have hb9 := x9.below
        generalize x9.w = w9 at hb9 ⊢
        have hb10 := hb.trans (hb9.mono hb.size)
        have v10 := vx.later hb9
        clear ca cb e0 e1 g0 g1 g2 g3 k0 k1 k2 k3
        go_wp2
        go_roundw
        case rel => exact ⟨j + 1, s, by omega, by go_num, rfl, by omega, HS.out, v10, hb10⟩
        case measure => simp [intOf]; omega
    · obtain rfl : j = f := by omega
      have hd := hq.done (by rw [HU.out.2]; exact Nat.le_refl _)
      rw [HU.out.2] at hd
      have hfin : u = decide (j < 2 * s) := HU.out.1.trans hd
      have HF := hide hfin
      clear hd hfin hq
      go_wp2
      go_ret
      exact ⟨ret_bool (by rw [HF.out]; apply decide_eq_decide.2; omega), hb⟩
theorem rksB_lt {mem l : List Pr} {r : Nat} (h : rksB mem l r = true) : r < mem.length := by
  obtain ⟨p, _, hm, e⟩ := of_decide_eq_true h
  rw [← e]; exact plc_lt hm
set_option maxRecDepth 100000 in
theorem rmask_any (x : Vw) (A2 : Option Addr) (n c2 : Nat) (k : List Pr) (B B2 : Nat) (w : World) (h : VwIn w B x) (hm40 : x.m ≤ 40) (hB : B ≤ w.heap.size) (hA : Es prC w B2 A2 n k) (hB2 : B2 ≤ w.heap.size) (hn : n ≤ 1000000) :
    Calls Try.prog 20 #[.agg #[.int .u64 (x.id : Int), .slice x.A x.m x.c, .slice x.B x.d x.e, .slice x.C x.f x.g], .slice A2 n c2] w fun e w' => e = .returned (.agg #[.int .u64 ((rkA x.l k : Nat) : Int), .int .u64 ((rkB x.l k : Nat) : Int)]) ∧ Below w.heap.size w w' := by
  obtain ⟨id, A, m, c, l, B', d, e, q, C, f, g, r⟩ := x
  obtain ⟨w3, hw3⟩ : ∃ w3, w3 = ((w.alloc (.cells #[.int .u64 (id : Int), .slice A m c, .slice B' d e, .slice C f g] 26)).alloc (.cells #[.int .u64 0, .int .u64 0] 39)).alloc (.cells (flagsA fun _ => false) 75) := ⟨_, rfl⟩
  have v0 : VAt w3 w.heap.size ⟨id, A, m, c, l, B', d, e, q, C, f, g, r⟩ := by rw [hw3]; exact ((VAt.mk_ w ⟨id, A, m, c, l, B', d, e, q, C, f, g, r⟩).alloc _).alloc _
  have m0 : MAt w3 (w.heap.size + 1) 0 0 := by
    rw [hw3]
    have := (MAt.mk_ (w.alloc (.cells #[.int .u64 (id : Int), .slice A m c, .slice B' d e, .slice C f g] 26)) 0 0).alloc (.cells (flagsA fun _ => false) 75)
    rw [World.size_alloc] at this
    exact this
  have f0 : FAt w3 (w.heap.size + 1 + 1) (rksB l (k.take 0)) := by
    rw [hw3]
    have := FAt.mk_ ((w.alloc (.cells #[.int .u64 (id : Int), .slice A m c, .slice B' d e, .slice C f g] 26)).alloc (.cells #[.int .u64 0, .int .u64 0] 39)) (fun _ => false)
    simp only [World.size_alloc] at this
    exact this.congr fun i _ => by rw [List.take_zero, rksB_nil]
  have hbz : Below w.heap.size w w3 := by rw [hw3]; exact (((Below.refl _ _).alloc (Nat.le_refl _) _).alloc (by simp) _).alloc (by simp; omega) _
  have hz := zeroFlags
  generalize hz0 : flagsA (fun _ => false) = z0 at hz hw3
  obtain ⟨i1, i2, i3, i4, i5, i6, i7, i8, i9, i10, i11⟩ := h
  dsimp only at *
  have hlen := hA.len
  have hlm := i2.len
  have HL := hide (And.intro hlen hlm)
  have hmc := Nat.le_trans i3 i4
  obtain ⟨a1, ha1⟩ : ∃ a, a = rkA l k := ⟨_, rfl⟩
  obtain ⟨a2, ha2⟩ : ∃ a, a = rkB l k := ⟨_, rfl⟩
  rw [← ha1, ← ha2]
  have HAA := hide (And.intro ha1 ha2)
  clear ha1 ha2 hlen hlm i8
  go_enter Try.func20, Try.ntmps20
  go_wp2
  rw [← hw3]
  clear hw3 hz hz0
  go_loopw [6] (fun i wr => ∃ j : Nat, j ≤ n ∧ i = .int .i64 j ∧ VAt wr w.heap.size ⟨id, A, m, c, l, B', d, e, q, C, f, g, r⟩ ∧ MAt wr (w.heap.size + 1) 0 0 ∧ FAt wr (w.heap.size + 1 + 1) (rksB l (k.take j)) ∧ Below w.heap.size w wr) (fun i _ => n - (intOf i).toNat)
  case atStart => exact ⟨0, Nat.zero_le _, rfl, v0, m0, f0, hbz⟩
  case round =>
    clear v0 m0 f0 hbz
    obtain ⟨j, hj, rfl, vx, q0, q1, hb⟩ := hrel
    by_cases hlt : j < n
    · obtain ⟨k0, k1, k2, k3⟩ := vx.cells
      dsimp only at k0 k1 k2 k3
      obtain ⟨ad, hl, rfl, hbl, hc⟩ := (hA.below (hb.mono hB2)).at_ prOk hlt
      have e9 := List.take_succ_eq_append_getElem hl
      obtain ⟨p, hp⟩ : ∃ p, p = k[j] := ⟨_, rfl⟩
      rw [← hp] at hc e9
      obtain ⟨d0, d1⟩ := pr_at hc
      have e0 := Later.cellAt d0
      have e1 := Later.cellAt d1
      have g0 := Later.cell k0
      have g1 := Later.cell k1
      have g2 := Later.cell k2
      have g3 := Later.cell k3
      have z1 : (0 : Int) ≤ (j : Int) := by omega
      have z2 : (j : Int) < (n : Int) := by omega
      have ca := fun Z : Later wr => calm_of (rat_any A m c l B p Z.w (i2.below ((hb.trans (Z.below.mono hb.size)).mono hB)) (Nat.le_trans hB (Nat.le_trans hb.size Z.below.size)) hmc)
      have HE := hide e9
      clear hp hc d0 d1 e9
      by_cases hin : p ∈ l
      · rw [atI_in hin] at ca
        have hr := plc_lt hin
        have hr' : plc l p < 128 := by have := HL.out.2; omega
        have hst : ∀ i, rksB l (k.take (j + 1)) i = (rksB l (k.take j) i || decide (i = plc l p)) := fun i => by rw [HE.out]; exact rksB_in l (k.take j) p hin i
        have HS := hide hst
        generalize plc l p = a at *
        have y1 : (a : Int) < 128 := by omega
        clear hin hr hst
        go_wp2_with fail
        refine wp_region_calm (by kernel_rfl) (by kernel_rfl) ?_
        repeat (go_big_quiet_step (first | (go_at_call 14; with_reducible exact ca _)))
        refine wpQuiet_nil ?_
        rintro _ ⟨x9, rfl⟩
        have hb9 := x9.below
        generalize x9.w = w9 at hb9 ⊢
        have hb10 := hb.trans (hb9.mono hb.size)
        have v10 := vx.later hb9
        have q10 := q0.later hb9
        have q11 := q1.later hb9
        have d2 := q11.cell hr'
        have d3 := q11.fz a
        have s0 : VAt (w9.setCell ⟨w.heap.size + 1 + 1, a, none⟩ (.bool true)) w.heap.size ⟨id, A, m, c, l, B', d, e, q, C, f, g, r⟩ := (heap_setCell_other w9 _ _ _ (by show w.heap.size ≠ w.heap.size + 1 + 1; omega)).trans v10
        have s1 : MAt (w9.setCell ⟨w.heap.size + 1 + 1, a, none⟩ (.bool true)) (w.heap.size + 1) 0 0 := q10.other _ (by simp)
        have s2 : FAt (w9.setCell ⟨w.heap.size + 1 + 1, a, none⟩ (.bool true)) (w.heap.size + 1 + 1) (rksB l (k.take (j + 1))) := (q11.set_ hr' true).congr fun i _ => by
          rw [HS.out i]
          by_cases e : i = a
          · simp [e]
          · simp [e]
        have s3 : Below w.heap.size w (w9.setCell ⟨w.heap.size + 1 + 1, a, none⟩ (.bool true)) := hb10.setCell (by simp; omega) _
        clear ca e0 e1 g0 g1 g2 g3 k0 k1 k2 k3 hb9 hb10 v10 q10 q11 q0 q1 vx hb
        go_wp2_with fail
        go_roundw
        case rel => exact ⟨j + 1, by omega, by go_num, s0, s1, s2, s3⟩
        case measure => simp [intOf]; omega
      · rw [atI_no hin] at ca
        have hst : ∀ i, rksB l (k.take (j + 1)) i = rksB l (k.take j) i := fun i => by rw [HE.out]; exact rksB_no l (k.take j) p hin i
        have HS := hide hst
        clear hin hst
        go_wp2_with fail
        refine wp_region_calm (by kernel_rfl) (by kernel_rfl) ?_
        repeat (go_big_quiet_step (first | (go_at_call 14; with_reducible exact ca _)))
        refine wpQuiet_nil ?_
        rintro _ ⟨x9, rfl⟩
        have hb9 := x9.below
        generalize x9.w = w9 at hb9 ⊢
        have hb10 := hb.trans (hb9.mono hb.size)
        have v10 := vx.later hb9
        have q10 := q0.later hb9
        have q11 := (q1.later hb9).congr fun i _ => (HS.out i).symm
        clear ca e0 e1 g0 g1 g2 g3 k0 k1 k2 k3 hb9 q0 q1 vx hb
        go_wp2_with fail
        go_roundw
        case rel => exact ⟨j + 1, by omega, by go_num, v10, q10, q11, hb10⟩
        case measure => simp [intOf]; omega
    · have ek : k.take j = k := List.take_of_length_le (by rw [HL.out.1]; omega)
      rw [ek] at q1
      have co := fun W => rof_any (rksB l k) W
      rw [show loM (rksB l k) = a1 from HAA.out.1.symm, show hiM (rksB l k) = a2 from HAA.out.2.symm] at co
      have Q := hide q1
      clear ek
      go_wp2_with (refine wpList_load_row rfl 75 (.tmp 5) rfl (w.heap.size + 1 + 1) rfl _ (flagsA (rksB l k)) _ _ Q.out Try.underlying75 rfl (sizeFlags _) ?_)
      refine (co _).mono ?_
      rintro e w2 ⟨rfl, hb1⟩
      have hb3 := hb.trans (hb1.mono hb.size)
      have m2 := q0.later hb1
      have d0 := m2.c0
      have d1 := m2.c1
      have d2 := m2.fz 0
      have d3 := m2.fz 1
      have d4 := m2.lt
      have s1 := m2.set_ a1 a2
      have s2 : Below w.heap.size w ((w2.setCell ⟨w.heap.size + 1, 0, none⟩ (.int .u64 (a1 : Int))).setCell ⟨w.heap.size + 1, 1, none⟩ (.int .u64 (a2 : Int))) := (hb3.setCell (by simp) _).setCell (by simp) _
      have t0 := s1.c0
      have t1 := s1.c1
      have HT := hide (And.intro t0 (And.intro t1 s2))
      clear hb1 hb hb3 q0 m2 co s1 t0 t1 s2 Q q1 vx
      go_wp2
      obtain ⟨t0, t1, s2⟩ := HT.out
      clear d0 d1 d2 d3 HT
      generalize ((w2.setCell ⟨w.heap.size + 1, 0, none⟩ (.int .u64 (a1 : Int))).setCell ⟨w.heap.size + 1, 1, none⟩ (.int .u64 (a2 : Int))) = w9 at t0 t1 s2 ⊢
      exact bodyPost_ret (v := .agg #[.int .u64 (a1 : Int), .int .u64 (a2 : Int)]) (by simp [results, Try.results20, go_sem, t0, t1]) rfl ⟨rfl, s2⟩
end Go.Proofs.Ythloamhodapmpaa
