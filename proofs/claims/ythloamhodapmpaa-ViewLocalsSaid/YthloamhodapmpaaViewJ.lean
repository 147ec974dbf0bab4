/-
  Layer 8, the document's: somebody's local view.
-/
import Derived.Test.YthloamhodapmpaaViewI
namespace Go.Proofs.Ythloamhodapmpaa
open Go.RowKit Go.Maps
set_option linter.unusedVariables false
set_option linter.unusedSimpArgs false

/-- What the document's Local answers: all of it lies below B. -/
def RLocalP (w : World) (B : Nat) (z : Vi) (e : Ending) (w' : World) : Prop := ∃ y : Vw, e = .returned (.agg #[.int .u64 (y.id : Int), .slice y.A y.m y.c, .slice y.B y.d y.e, .slice y.C y.f y.g]) ∧ y.v = z ∧ VwIn w' B y ∧ VSmall y ∧ Below w.heap.size w w'
theorem zeroX_in (w : World) (B : Nat) : VwIn w B zeroX := ⟨by decide, Es.none_, Nat.le_refl _, by decide, Es.none_, Nat.le_refl _, by decide, fun y hy => by simp [zeroX] at hy, Es.none_, Nat.le_refl _, by decide⟩
set_option maxRecDepth 100000 in
set_option maxHeartbeats 1000000 in
theorem rlocal_any (x : Vw) (p : Pr) (B : Nat) (w : World) (z : Vi) (h : VwIn w B x) (hs : VSmall x) (hB : B ≤ w.heap.size) (hz : LocP x.v p z) :
    Calls Try.prog 33 #[.agg #[.int .u64 (x.id : Int), .slice x.A x.m x.c, .slice x.B x.d x.e, .slice x.C x.f x.g], .agg #[.int .u16 (p.i : Int), .int .u32 (p.k : Int)]] w (RLocalP w B z) := by
  have v0 := ((VAt.mk_ w x).alloc (.cells #[.int .u16 (p.i : Int), .int .u32 (p.k : Int)] 34)).alloc (.cells #[.int .u64 0, .slice none 0 0, .slice none 0 0, .slice none 0 0] 26)
  have z0 : VAt (((w.alloc (.cells #[.int .u64 (x.id : Int), .slice x.A x.m x.c, .slice x.B x.d x.e, .slice x.C x.f x.g] 26)).alloc (.cells #[.int .u16 (p.i : Int), .int .u32 (p.k : Int)] 34)).alloc (.cells #[.int .u64 0, .slice none 0 0, .slice none 0 0, .slice none 0 0] 26)) (w.heap.size + 1 + 1) zeroX := by
    have := VAt.mk_ ((w.alloc (.cells #[.int .u64 (x.id : Int), .slice x.A x.m x.c, .slice x.B x.d x.e, .slice x.C x.f x.g] 26)).alloc (.cells #[.int .u16 (p.i : Int), .int .u32 (p.k : Int)] 34)) zeroX
    rw [World.size_alloc, World.size_alloc] at this
    exact this
  have hbz : Below w.heap.size w (((w.alloc (.cells #[.int .u64 (x.id : Int), .slice x.A x.m x.c, .slice x.B x.d x.e, .slice x.C x.f x.g] 26)).alloc (.cells #[.int .u16 (p.i : Int), .int .u32 (p.k : Int)] 34)).alloc (.cells #[.int .u64 0, .slice none 0 0, .slice none 0 0, .slice none 0 0] 26)) := (((Below.refl _ _).alloc (Nat.le_refl _) _).alloc (by simp) _).alloc (by simp; omega) _
  have p0 : (((w.alloc (.cells #[.int .u64 (x.id : Int), .slice x.A x.m x.c, .slice x.B x.d x.e, .slice x.C x.f x.g] 26)).alloc (.cells #[.int .u16 (p.i : Int), .int .u32 (p.k : Int)] 34)).alloc (.cells #[.int .u64 0, .slice none 0 0, .slice none 0 0, .slice none 0 0] 26)).cell? ⟨w.heap.size + 1, 0, none⟩ = some (.int .u16 (p.i : Int)) := by go_simp
  have p1 : (((w.alloc (.cells #[.int .u64 (x.id : Int), .slice x.A x.m x.c, .slice x.B x.d x.e, .slice x.C x.f x.g] 26)).alloc (.cells #[.int .u16 (p.i : Int), .int .u32 (p.k : Int)] 34)).alloc (.cells #[.int .u64 0, .slice none 0 0, .slice none 0 0, .slice none 0 0] 26)).cell? ⟨w.heap.size + 1, 1, none⟩ = some (.int .u32 (p.k : Int)) := by go_simp
  have cl := rleaf_any x p B _ (h.below (hbz.mono hB)) (Nat.le_trans hB hbz.size)
  have ck := fun W t (hb : Below w.heap.size w W) ht => rcheck_any x B W t (h.below (hb.mono hB)) hs (Nat.le_trans hB hb.size) ht
  obtain ⟨id, A, m, c, l, B', d, e, q, C, f, g, r⟩ := x
  obtain ⟨hs1, hs2, hs3, hs4⟩ := hs
  obtain ⟨i1, i2, i3, i4, i5, i6, i7, i8, i9, i10, i11⟩ := h
  obtain ⟨k0, k1, k2, k3⟩ := v0.cells
  dsimp only at *
  generalize hw1 : (((w.alloc (.cells #[.int .u64 (id : Int), .slice A m c, .slice B' d e, .slice C f g] 26)).alloc (.cells #[.int .u16 (p.i : Int), .int .u32 (p.k : Int)] 34)).alloc (.cells #[.int .u64 0, .slice none 0 0, .slice none 0 0, .slice none 0 0] 26)) = w1 at *
  obtain ⟨tc, htc⟩ := bool_of (MayV (Vw.v ⟨id, A, m, c, l, B', d, e, q, C, f, g, r⟩))
  have hyes := locP_yes hz
  have hno := locP_no hz
  simp only [Vw.v] at hyes hno htc cl
  have HX := hide (And.intro hyes (And.intro hno htc))
  have HK := hide (fun W hb => ck W tc hb htc)
  have hX := lfX_lt (q.map Lf.l) p
  have hXI := fun h => lfI_in (lvs := q.map Lf.l) (p := p) h
  have hXN := fun h => lfI_no (lvs := q.map Lf.l) (p := p) h
  have hXL := lfI_lt (q.map Lf.l) p
  have HL := hide (And.intro hX (And.intro hXI hXN))
  obtain ⟨s, hs⟩ : ∃ s, s = lfI (q.map Lf.l) p := ⟨_, rfl⟩
  rw [← hs] at cl hXL
  have HS := hide hs
  clear hyes hno htc ck hX hXI hXN hs
  go_enter Try.func33, Try.ntmps33
  go_wp2_with fail
  refine cl.mono ?_
  rintro e9 w2 ⟨rfl, hb1⟩
  have hb2 := hbz.trans (hb1.mono hbz.size)
  have v2 := v0.later hb1
  have z2 := z0.later hb1
  have ck2 := HK.out w2 hb2
  clear k0 k1 k2 k3 cl hbz hb1 v0 z0 hw1 p0 p1
  obtain ⟨k0, k1, k2, k3⟩ := v2.cells
  dsimp only at k0 k1 k2 k3
  cases tc
  · go_wp2_with fail
    refine ck2.mono ?_
    rintro e9 w3 ⟨rfl, hb1⟩
    have hb3 := hb2.trans (hb1.mono hb2.size)
    have z3 := z2.later hb1
    clear hb1 hb2 v2 z2 k0 k1 k2 k3 ck2
    obtain ⟨j0, j1, j2, j3⟩ := z3.cells
    simp only [zeroX] at j0 j1 j2 j3
    have x0 := z3.fz 0
    have x1 := z3.fz 1
    have x2 := z3.fz 2
    have x3 := z3.fz 3
    have x4 := z3.lt
    have t3 := z3.put zeroX
    have hb4 : Below w.heap.size w (put4 w3 (w.heap.size + 1 + 1) zeroX) := (((hb3.setCell (by simp; omega) _).setCell (by simp; omega) _).setCell (by simp; omega) _).setCell (by simp; omega) _
    have hzz : zeroX.v = z := (HX.out.2.1 (fun h => by have := HX.out.2.2.2 h.1; cases this)).symm
    have HF := hide (And.intro t3 (And.intro hb4 hzz))
    clear z3 t3 hb4 hb3 hzz
    go_wp2
    obtain ⟨t3, hb4, hzz⟩ := HF.out
    obtain ⟨t0, t1, t2, t3⟩ := t3.cells
    clear HF j0 j1 j2 j3 x0 x1 x2 x3
    simp only [put4, zeroX] at t0 t1 t2 t3 hb4
    exact bodyPost_ret (v := .agg #[.int .u64 0, .slice none 0 0, .slice none 0 0, .slice none 0 0]) (by first | (simp [results, Try.results33, go_sem, t0, t1, t2, t3]; done) | (simp at t0 t1 t2 t3; simp [results, Try.results33, go_sem, t0, t1, t2, t3])) rfl ⟨zeroX, rfl, hzz, zeroX_in _ _, zeroX_small, hb4⟩
  · by_cases hin : p ∈ (q.map Lf.l).flatten
    · obtain ⟨a, hsa, hl1, hl3⟩ : ∃ a : Nat, s = (a : Int) ∧ ∃ h : a < (q.map Lf.l).length, z = ⟨id, (q.map Lf.l)[a], [(q.map Lf.l)[a]], (q.map Lf.l)[a]⟩ := by
        obtain ⟨h1, _, h3⟩ := HX.out.1 (HX.out.2.2.1 (by first | rfl | trivial)) hin
        exact ⟨_, HS.out.trans (HL.out.2.1 hin), h1, h3⟩
      clear hin
      subst hsa
      have y1 : decide ((a : Int) < 0) = false := decide_eq_false (by omega)
      go_wp2_with fail
      refine ck2.mono ?_
      rintro e9 w3 ⟨rfl, hb1⟩
      have hb3 := hb2.trans (hb1.mono hb2.size)
      have z3 := z2.later hb1
      have v3 := v2.later hb1
      clear hb1 hb2 v2 z2 k0 k1 k2 k3 ck2
      obtain ⟨k0, k1, k2, k3⟩ := v3.cells
      dsimp only at k0 k1 k2 k3
      have hlq : a < q.length := by simpa using hl1
      have had : a < d := by rw [← i5.len]; exact hlq
      have hcut := (Es.take lfOk (Es.cut lfOk (i5.below (hb3.mono hB)) (m := a) (by omega) had) (m := 1) (by omega))
      obtain ⟨ad, hl4, rfl, hadB, hc⟩ := (i5.below (hb3.mono hB)).at_ lfOk had
      have hy := i8 q[a] (List.getElem_mem hlq)
      have hy4 := hs4 q[a] (List.getElem_mem hlq)
      have hgl : (q.map Lf.l)[a] = q[a].l := by simp
      rw [hgl] at hl3
      have hdr : (q.drop a).take 1 = [q[a]] := by rw [List.drop_eq_getElem_cons hlq]; rfl
      rw [hdr] at hcut
      obtain ⟨zz, hzz⟩ : ∃ z, z = q[a] := ⟨_, rfl⟩
      rw [← hzz] at hc hy hy4 hl3 hcut
      have b0 := lf_at hc
      obtain ⟨za, zm, zc, zl⟩ := zz
      obtain ⟨hze, hzc, hzr⟩ := hy
      dsimp only at b0 hze hzc hzr hy4
      have x5 : (0 : Int) ≤ (a : Int) := by omega
      have x6 : (a : Int) < (d : Int) := by omega
      have x7 : a ≤ e := by omega
      have x8 : a + 1 ≤ e := by omega
      have hcd : (Option.map (fun x => x.add (a * 1)) (some ad) : Option Addr) = some (ad.add a) := by simp
      rw [hcd] at hcut
      have HC := hide (And.intro hcut hl3)
      clear hc hzz hgl hdr hcut hl3 hcd
      have hd63 := i7
      unfold maxLen at hd63
      have xw : IntKind.i64.wrap ((a : Int) + 1) = (a : Int) + 1 := by rw [IntKind.wrap_i64]; omega
      have x9 : (a : Int) ≤ (a : Int) + 1 := by omega
      have x10 : (a : Int) + 1 ≤ (e : Int) := by omega
      have x11 : ¬ e = a := by omega
      have x12 : ((a : Int) + 1).toNat = a + 1 := by omega
      go_wp2_with fail
      go_still_tail 19, (by kernel_rfl)
      change wpList _ _ _ _ _ w3.drew
      have hb3d : Below w.heap.size w w3.drew := hb3.drew
      have z3d : VAt w3.drew (w.heap.size + 1 + 1) zeroX := z3
      have hyin : VwIn w3.drew B ⟨id, za, zm, zc, zl, some (ad.add a), 1, e - a, [⟨za, zm, zc, zl⟩], za, zm, zc, zl⟩ := ⟨i1, hze.below (hb3d.mono hB), hzc, hzr, HC.out.1.drew, (by show 1 ≤ e - a; omega), (by show e - a ≤ maxLen; omega), fun y hy => by
          rw [List.mem_singleton] at hy
          subst hy
          exact ⟨hze.below (hb3d.mono hB), hzc, hzr⟩, hze.below (hb3d.mono hB), hzc, hzr⟩
      have hsm : VSmall ⟨id, za, zm, zc, zl, some (ad.add a), 1, e - a, [⟨za, zm, zc, zl⟩], za, zm, zc, zl⟩ := ⟨hy4, (by decide : (1 : Nat) ≤ 40), hy4, fun y hy => by
          rw [List.mem_singleton] at hy
          subst hy
          exact hy4⟩
      have hyz : Vw.v ⟨id, za, zm, zc, zl, some (ad.add a), 1, e - a, [⟨za, zm, zc, zl⟩], za, zm, zc, zl⟩ = z := HC.out.2.symm
      clear z3 hb3 x5 x6 x7 x8 xw x9 x10 x11 x12 b0 k0 k1 k2 k3
      obtain ⟨j0, j1, j2, j3⟩ := z3d.cells
      simp only [zeroX] at j0 j1 j2 j3
      have x0 := z3d.fz 0
      have x1 := z3d.fz 1
      have x2 := z3d.fz 2
      have x3 := z3d.fz 3
      have x4 := z3d.lt
      have t3 := z3d.put ⟨id, za, zm, zc, zl, some (ad.add a), 1, e - a, [⟨za, zm, zc, zl⟩], za, zm, zc, zl⟩
      have hb4 : Below w.heap.size w (put4 w3.drew (w.heap.size + 1 + 1) ⟨id, za, zm, zc, zl, some (ad.add a), 1, e - a, [⟨za, zm, zc, zl⟩], za, zm, zc, zl⟩) := (((hb3d.setCell (by simp; omega) _).setCell (by simp; omega) _).setCell (by simp; omega) _).setCell (by simp; omega) _
      have hbB : Below B w3.drew (put4 w3.drew (w.heap.size + 1 + 1) ⟨id, za, zm, zc, zl, some (ad.add a), 1, e - a, [⟨za, zm, zc, zl⟩], za, zm, zc, zl⟩) := ((((Below.refl _ _).setCell (by simp; omega) _).setCell (by simp; omega) _).setCell (by simp; omega) _).setCell (by simp; omega) _
      have hyin2 := hyin.below hbB
      have HF := hide (And.intro t3 (And.intro hb4 (And.intro hyin2 (And.intro hsm hyz))))
      clear z3d t3 hb4 hb3d hyin hyin2 hsm hyz hbB HC
      generalize w3.drew = w9 at *
      go_wp2
      obtain ⟨t3, hb4, hyin2, hsm, hyz⟩ := HF.out
      obtain ⟨t0, t1, t2, t3⟩ := t3.cells
      clear HF j0 j1 j2 j3 x0 x1 x2 x3
      simp only [put4] at t0 t1 t2 t3 hb4 hyin2
      exact bodyPost_ret (v := .agg #[.int .u64 (id : Int), .slice za zm zc, .slice (some (ad.add a)) 1 (e - a), .slice za zm zc]) (by simp [results, Try.results33, go_sem, t0, t1, t2, t3]) rfl ⟨_, rfl, hyz, hyin2, hsm, hb4⟩
    · have hsa := HS.out.trans (HL.out.2.2 hin)
      have hzz : zeroX.v = z := (HX.out.2.1 (fun h => hin h.2)).symm
      have HZ := hide hzz
      subst hsa
      clear hin hzz
      go_wp2_with fail
      refine ck2.mono ?_
      rintro e9 w3 ⟨rfl, hb1⟩
      have hb3 := hb2.trans (hb1.mono hb2.size)
      have z3 := z2.later hb1
      clear hb1 hb2 v2 z2 k0 k1 k2 k3 ck2
      obtain ⟨j0, j1, j2, j3⟩ := z3.cells
      simp only [zeroX] at j0 j1 j2 j3
      have x0 := z3.fz 0
      have x1 := z3.fz 1
      have x2 := z3.fz 2
      have x3 := z3.fz 3
      have x4 := z3.lt
      have t3 := z3.put zeroX
      have hb4 : Below w.heap.size w (put4 w3 (w.heap.size + 1 + 1) zeroX) := (((hb3.setCell (by simp; omega) _).setCell (by simp; omega) _).setCell (by simp; omega) _).setCell (by simp; omega) _
      have HF := hide (And.intro t3 (And.intro hb4 HZ.out))
      clear z3 t3 hb4 hb3
      go_wp2
      obtain ⟨t3, hb4, hzz⟩ := HF.out
      obtain ⟨t0, t1, t2, t3⟩ := t3.cells
      clear HF j0 j1 j2 j3 x0 x1 x2 x3
      simp only [put4, zeroX] at t0 t1 t2 t3 hb4
      exact bodyPost_ret (v := .agg #[.int .u64 0, .slice none 0 0, .slice none 0 0, .slice none 0 0]) (by first | (simp [results, Try.results33, go_sem, t0, t1, t2, t3]; done) | (simp at t0 t1 t2 t3; simp [results, Try.results33, go_sem, t0, t1, t2, t3])) rfl ⟨zeroX, rfl, hzz, zeroX_in _ _, zeroX_small, hb4⟩
end Go.Proofs.Ythloamhodapmpaa
