/-
  Layer 8: somebody's local view, and the document's.
-/
import Derived.Test.YthloamhodapmpaaViewN
import Derived.Test.YthloamhodapmpaaViewH
import Derived.Test.YthloamhodapmpaaViewC
import Derived.Test.YthloamhodapmpaaViewF
import Derived.StillTailTactics
namespace Go.Proofs.Ythloamhodapmpaa
open Go.RowKit Go.Maps
set_option linter.unusedVariables false
set_option linter.unusedSimpArgs false

/-- What Local answers. -/
def LocalP (w : World) (z : Vi) (e : Ending) (w' : World) : Prop := ∃ y : Vw, e = .returned (.agg #[.int .u64 (y.id : Int), .slice y.A y.m y.c, .slice y.B y.d y.e, .slice y.C y.f y.g]) ∧ y.v = z ∧ VwOwn w' w.heap.size y ∧ VSmall y ∧ Below w.heap.size w w'
theorem zeroX_own (w : World) (base : Nat) : VwOwn w base zeroX := ⟨OwnE.nil_ _ _, OwnE.nil_ _ _, fun y hy => by simp [zeroX] at hy, OwnE.nil_ _ _⟩
theorem zeroX_small : VSmall zeroX := ⟨by decide, by decide, by decide, fun y hy => by simp [zeroX] at hy⟩
theorem zeroX_v : zeroX.v = zeroVi := rfl
theorem lfI_no {lvs : List (List Pr)} {p : Pr} (h : p ∉ lvs.flatten) : lfI lvs p = -1 := if_neg h
theorem lfI_in {lvs : List (List Pr)} {p : Pr} (h : p ∈ lvs.flatten) : lfI lvs p = (lfX lvs p : Int) := if_pos h
set_option maxRecDepth 100000 in
set_option maxHeartbeats 1000000 in
theorem local_any (x : Vw) (p : Pr) (B : Nat) (w : World) (z : Vi) (h : VwIn w B x) (hs : VSmall x) (hB : B ≤ w.heap.size) (hz : LocP x.v p z) :
    Calls Try.prog 32 #[.agg #[.int .u64 (x.id : Int), .slice x.A x.m x.c, .slice x.B x.d x.e, .slice x.C x.f x.g], .agg #[.int .u16 (p.i : Int), .int .u32 (p.k : Int)]] w (LocalP w z) := by
  have v0 := ((VAt.mk_ w x).alloc (.cells #[.int .u16 (p.i : Int), .int .u32 (p.k : Int)] 34)).alloc (.cells #[.int .u64 0, .slice none 0 0, .slice none 0 0, .slice none 0 0] 26)
  have z0 : VAt (((w.alloc (.cells #[.int .u64 (x.id : Int), .slice x.A x.m x.c, .slice x.B x.d x.e, .slice x.C x.f x.g] 26)).alloc (.cells #[.int .u16 (p.i : Int), .int .u32 (p.k : Int)] 34)).alloc (.cells #[.int .u64 0, .slice none 0 0, .slice none 0 0, .slice none 0 0] 26)) (w.heap.size + 1 + 1) zeroX := by
    have := VAt.mk_ ((w.alloc (.cells #[.int .u64 (x.id : Int), .slice x.A x.m x.c, .slice x.B x.d x.e, .slice x.C x.f x.g] 26)).alloc (.cells #[.int .u16 (p.i : Int), .int .u32 (p.k : Int)] 34)) zeroX
    rw [World.size_alloc, World.size_alloc] at this
    exact this
  have hbz : Below w.heap.size w (((w.alloc (.cells #[.int .u64 (x.id : Int), .slice x.A x.m x.c, .slice x.B x.d x.e, .slice x.C x.f x.g] 26)).alloc (.cells #[.int .u16 (p.i : Int), .int .u32 (p.k : Int)] 34)).alloc (.cells #[.int .u64 0, .slice none 0 0, .slice none 0 0, .slice none 0 0] 26)) := (((Below.refl _ _).alloc (Nat.le_refl _) _).alloc (by simp) _).alloc (by simp; omega) _
  have hszz : w.heap.size + 1 + 1 + 1 ≤ (((w.alloc (.cells #[.int .u64 (x.id : Int), .slice x.A x.m x.c, .slice x.B x.d x.e, .slice x.C x.f x.g] 26)).alloc (.cells #[.int .u16 (p.i : Int), .int .u32 (p.k : Int)] 34)).alloc (.cells #[.int .u64 0, .slice none 0 0, .slice none 0 0, .slice none 0 0] 26)).heap.size := by simp
  have p0 : (((w.alloc (.cells #[.int .u64 (x.id : Int), .slice x.A x.m x.c, .slice x.B x.d x.e, .slice x.C x.f x.g] 26)).alloc (.cells #[.int .u16 (p.i : Int), .int .u32 (p.k : Int)] 34)).alloc (.cells #[.int .u64 0, .slice none 0 0, .slice none 0 0, .slice none 0 0] 26)).cell? ⟨w.heap.size + 1, 0, none⟩ = some (.int .u16 (p.i : Int)) := by go_simp
  have p1 : (((w.alloc (.cells #[.int .u64 (x.id : Int), .slice x.A x.m x.c, .slice x.B x.d x.e, .slice x.C x.f x.g] 26)).alloc (.cells #[.int .u16 (p.i : Int), .int .u32 (p.k : Int)] 34)).alloc (.cells #[.int .u64 0, .slice none 0 0, .slice none 0 0, .slice none 0 0] 26)).cell? ⟨w.heap.size + 1, 1, none⟩ = some (.int .u32 (p.k : Int)) := by go_simp
  have cl := leaf_any x p B _ (h.below (hbz.mono hB)) (Nat.le_trans hB hbz.size)
  have ck := fun W t (hb : Below w.heap.size w W) ht => check_any x B W t (h.below (hb.mono hB)) hs (Nat.le_trans hB hb.size) ht
  have hzhi := locP_hi hz
  obtain ⟨id, A, m, c, l, B', d, e, q, C, f, g, r⟩ := x
  obtain ⟨hs1, hs2, hs3, hs4⟩ := hs
  obtain ⟨i1, i2, i3, i4, i5, i6, i7, i8, i9, i10, i11⟩ := h
  obtain ⟨k0, k1, k2, k3⟩ := v0.cells
  dsimp only at *
  generalize hw1 : (((w.alloc (.cells #[.int .u64 (id : Int), .slice A m c, .slice B' d e, .slice C f g] 26)).alloc (.cells #[.int .u16 (p.i : Int), .int .u32 (p.k : Int)] 34)).alloc (.cells #[.int .u64 0, .slice none 0 0, .slice none 0 0, .slice none 0 0] 26)) = w1 at *
  by_cases hin : p ∈ (q.map Lf.l).flatten
  · simp only [Vw.v] at cl
    rw [lfI_in hin] at cl
    have hX := lfX_lt (q.map Lf.l) p hin
    obtain ⟨tc, htc⟩ := bool_of (MayV (Vw.v ⟨id, A, m, c, l, B', d, e, q, C, f, g, r⟩))
    have hyes := locP_yes hz
    have hno := locP_no hz
    simp only [Vw.v] at hyes hno htc
    have HX := hide (And.intro hX (And.intro hyes (And.intro hno (And.intro htc hin))))
    have HK := hide (fun W hb => ck W tc hb htc)
    obtain ⟨a, ha⟩ : ∃ a, a = lfX (q.map Lf.l) p := ⟨_, rfl⟩
    rw [← ha] at cl
    have HA := hide ha
    clear hX hyes hno htc hin ck ha
    go_enter Try.func32, Try.ntmps32
    go_wp2_with fail
    refine cl.mono ?_
    rintro e9 w2 ⟨rfl, hb1⟩
    have hb2 := hbz.trans (hb1.mono hbz.size)
    have v2 := v0.later hb1
    have z2 := z0.later hb1
    have hsz2 := Nat.le_trans hszz hb1.size
    have ck2 := HK.out w2 hb2
    clear k0 k1 k2 k3 cl hbz hb1 v0 z0 hw1 hszz p0 p1
    obtain ⟨k0, k1, k2, k3⟩ := v2.cells
    dsimp only at k0 k1 k2 k3
    have y1 : decide ((a : Int) < 0) = false := decide_eq_false (by omega)
    cases tc
    · rw [show ckI false = 1 from rfl] at ck2
      go_wp2_with fail
      refine ck2.mono ?_
      rintro e9 w3 ⟨rfl, hb1⟩
      have hb3 := hb2.trans (hb1.mono hb2.size)
      have z3 := z2.later hb1
      clear hb1 hb2 v2 z2 k0 k1 k2 k3 ck2
      obtain ⟨j0, j1, j2, j3⟩ := z3.cells
      simp only [zeroX] at j0 j1 j2 j3
      have x0 := z3.fz 0
      have x1 := z3.fz 1
      have x2 := z3.fz 2
      have x3 := z3.fz 3
      have x4 := z3.lt
      have t3 := z3.put zeroX
      have hb4 : Below w.heap.size w (put4 w3 (w.heap.size + 1 + 1) zeroX) := (((hb3.setCell (by simp; omega) _).setCell (by simp; omega) _).setCell (by simp; omega) _).setCell (by simp; omega) _
      have hzz : zeroX.v = z := (HX.out.2.2.1 (fun h => by have := HX.out.2.2.2.1.2 h.1; cases this)).symm
      have HF := hide (And.intro t3 (And.intro hb4 hzz))
      clear z3 t3 hb4 hb3 hzz
      go_wp2
      obtain ⟨t3, hb4, hzz⟩ := HF.out
      obtain ⟨t0, t1, t2, t3⟩ := t3.cells
      clear HF j0 j1 j2 j3 x0 x1 x2 x3
      simp only [put4, zeroX] at t0 t1 t2 t3 hb4
      exact bodyPost_ret (v := .agg #[.int .u64 0, .slice none 0 0, .slice none 0 0, .slice none 0 0]) (by first | (simp [results, Try.results32, go_sem, t0, t1, t2, t3]; done) | (simp at t0 t1 t2 t3; simp [results, Try.results32, go_sem, t0, t1, t2, t3])) rfl ⟨zeroX, rfl, hzz, zeroX_own _ _, zeroX_small, hb4⟩
    · rw [show ckI true = 0 from rfl] at ck2
      go_wp2_with fail
      refine ck2.mono ?_
      rintro e9 w3 ⟨rfl, hb1⟩
      have hb3 := hb2.trans (hb1.mono hb2.size)
      have z3 := z2.later hb1
      have v3 := v2.later hb1
      have hsz3 := Nat.le_trans hsz2 hb1.size
      clear hb1 hb2 v2 z2 k0 k1 k2 k3 ck2 hsz2
      obtain ⟨k0, k1, k2, k3⟩ := v3.cells
      dsimp only at k0 k1 k2 k3
      have hmay := HX.out.2.2.2.1.1 (by first | rfl | trivial)
      obtain ⟨hl1, hl2, hl3⟩ := HX.out.2.1 hmay HX.out.2.2.2.2
      simp only [← HA.out] at hl1 hl2 hl3
      have hlq : a < q.length := by simpa using hl1
      have had : a < d := by rw [← i5.len]; exact hlq
      obtain ⟨ad, hl4, rfl, _, hc⟩ := (i5.below (hb3.mono hB)).at_ lfOk had
      have hy := i8 q[a] (List.getElem_mem hlq)
      have hy4 := hs4 q[a] (List.getElem_mem hlq)
      have hgl : (q.map Lf.l)[a] = q[a].l := by simp
      rw [hgl] at hl3
      obtain ⟨zz, hzz⟩ : ∃ z, z = q[a] := ⟨_, rfl⟩
      rw [← hzz] at hc hy hy4 hl3
      have b0 := lf_at hc
      have HZ := hide (And.intro hzz hl3)
      obtain ⟨za, zm, zc, zl⟩ := zz
      obtain ⟨hze, hzc, hzr⟩ := hy
      dsimp only at b0 hze hzc hzr hy4
      have x5 : (0 : Int) ≤ (a : Int) := by omega
      have x6 : (a : Int) < (d : Int) := by omega
      have hb3a : Below w.heap.size w (w3.alloc (.cells #[.slice za zm zc] 23)) := hb3.alloc hb3.size _
      have cc := copy_any ⟨id, za, zm, zc, zl, some ⟨w3.heap.size, 0, none⟩, 1, 1, [⟨za, zm, zc, zl⟩], za, zm, zc, zl⟩ (w3.heap.size + 1) (w3.alloc (.cells #[.slice za zm zc] 23))
        ⟨i1, (hze.below (hb3a.mono hB)).more (by have := hb3.size; omega), hzc, hzr, es_block (heap_alloc_new w3 _) rfl rfl, Nat.le_refl _, (by decide : (1 : Nat) ≤ maxLen), fun y hy => by
          rw [List.mem_singleton] at hy
          subst hy
          exact ⟨(hze.below (hb3a.mono hB)).more (by have := hb3.size; omega), hzc, hzr⟩, (hze.below (hb3a.mono hB)).more (by have := hb3.size; omega), hzc, hzr⟩
        ⟨hy4, (by decide : (1 : Nat) ≤ 40), hy4, fun y hy => by
          rw [List.mem_singleton] at hy
          subst hy
          exact hy4⟩ (by simp)
      unfold CopyP at cc
      dsimp only [Vw.v, List.map_cons, List.map_nil] at cc
      clear hc hzz hl1 hl2 hl3 hgl v3 hmay
      go_wp2_with fail
      refine cc.mono ?_
      rintro e9 w4 ⟨y, rfl, hyv, hym, hyd, hyf, hyq, hyo, hb1⟩
      have hb4 := hb3a.trans (hb1.mono hb3a.size)
      have z4 := (z3.alloc (.cells #[.slice za zm zc] 23)).later hb1
      have hown4 := hyo.mono (base' := w.heap.size + 1 + 1 + 1) (by simp; omega)
      have hsm : VSmall y := ⟨by rw [hym]; exact hy4, by rw [hyd]; decide, by rw [hyf]; exact hy4, fun u hu => by
        have : u.m ∈ y.q.map Lf.m := List.mem_map.2 ⟨u, hu, rfl⟩
        rw [hyq, List.map_cons, List.map_nil, List.mem_singleton] at this
        rw [this]; exact hy4⟩
      have hyz : y.v = z := (show y.v = ⟨id, zl, [zl], zl⟩ from hyv).trans HZ.out.2.symm
      obtain ⟨j0, j1, j2, j3⟩ := z4.cells
      simp only [zeroX] at j0 j1 j2 j3
      have x0 := z4.fz 0
      have x1 := z4.fz 1
      have x2 := z4.fz 2
      have x3 := z4.fz 3
      have x4 := z4.lt
      have t4 := z4.put y
      have hb5 : Below w.heap.size w (put4 w4 (w.heap.size + 1 + 1) y) := (((hb4.setCell (by simp; omega) _).setCell (by simp; omega) _).setCell (by simp; omega) _).setCell (by simp; omega) _
      have far2 := fun {α : Type} {enc : α → List Value} {kk : Nat} {T : TypeId} {W : World} {n : Nat} {v : Value} {l : List α} (h : OwnE T enc kk W (w.heap.size + 1 + 1 + 1) v n l) (o : Nat) (u : Value) => h.set_far (a := ⟨w.heap.size + 1 + 1, o, none⟩) u (by show w.heap.size + 1 + 1 < w.heap.size + 1 + 1 + 1; omega)
      have hown5 : VwOwn (put4 w4 (w.heap.size + 1 + 1) y) w.heap.size y :=
        VwOwn.mono (base := w.heap.size + 1 + 1 + 1) ⟨far2 (far2 (far2 (far2 hown4.ms _ _) _ _) _ _) _ _, far2 (far2 (far2 (far2 hown4.lv _ _) _ _) _ _) _ _, fun u hu => far2 (far2 (far2 (far2 (hown4.each u hu) _ _) _ _) _ _) _ _, far2 (far2 (far2 (far2 hown4.dr _ _) _ _) _ _) _ _⟩ (by omega)
      have HF := hide (And.intro t4 (And.intro hb5 (And.intro hown5 (And.intro hsm hyz))))
      obtain ⟨yid, yA, ym, yc, yl, yB, yd, ye, yq, yC, yf, yg, yr⟩ := y
      dsimp only at *
      clear z3 z4 t4 hb4 hb3 hb5 hown4 hown5 far2 hsm hyz hyo hyv hym hyd hyf hyq hb3a hb1 cc HZ HX HK HA k0 k1 k2 k3 b0
      go_wp2
      obtain ⟨t4, hb5, hown5, hsm, hyz⟩ := HF.out
      obtain ⟨t0, t1, t2, t3⟩ := t4.cells
      clear HF j0 j1 j2 j3 x0 x1 x2 x3 t4
      simp only [put4] at t0 t1 t2 t3 hb5 hown5
      exact bodyPost_ret (v := .agg #[.int .u64 (yid : Int), .slice yA ym yc, .slice yB yd ye, .slice yC yf yg]) (by simp [results, Try.results32, go_sem, t0, t1, t2, t3]) rfl ⟨_, rfl, hyz, hown5, hsm, hb5⟩
  · simp only [Vw.v] at cl
    rw [lfI_no hin] at cl
    have hzz : zeroX.v = z := (locP_no hz (fun h => hin h.2)).symm
    have HZ := hide hzz
    clear hin hzz ck
    go_enter Try.func32, Try.ntmps32
    go_wp2_with fail
    refine cl.mono ?_
    rintro e9 w3 ⟨rfl, hb1⟩
    have hb3 := hbz.trans (hb1.mono hbz.size)
    have z3 := z0.later hb1
    clear hb1 hbz v0 z0 k0 k1 k2 k3 cl hw1 p0 p1
    obtain ⟨j0, j1, j2, j3⟩ := z3.cells
    simp only [zeroX] at j0 j1 j2 j3
    have x0 := z3.fz 0
    have x1 := z3.fz 1
    have x2 := z3.fz 2
    have x3 := z3.fz 3
    have x4 := z3.lt
    have t3 := z3.put zeroX
    have hb4 : Below w.heap.size w (put4 w3 (w.heap.size + 1 + 1) zeroX) := (((hb3.setCell (by simp; omega) _).setCell (by simp; omega) _).setCell (by simp; omega) _).setCell (by simp; omega) _
    have HF := hide (And.intro t3 (And.intro hb4 HZ.out))
    clear z3 t3 hb4 hb3
    go_wp2
    obtain ⟨t3, hb4, hzz⟩ := HF.out
    obtain ⟨t0, t1, t2, t3⟩ := t3.cells
    clear HF j0 j1 j2 j3 x0 x1 x2 x3
    simp only [put4, zeroX] at t0 t1 t2 t3 hb4
    exact bodyPost_ret (v := .agg #[.int .u64 0, .slice none 0 0, .slice none 0 0, .slice none 0 0]) (by first | (simp [results, Try.results32, go_sem, t0, t1, t2, t3]; done) | (simp at t0 t1 t2 t3; simp [results, Try.results32, go_sem, t0, t1, t2, t3])) rfl ⟨zeroX, rfl, hzz, zeroX_own _ _, zeroX_small, hb4⟩
end Go.Proofs.Ythloamhodapmpaa
