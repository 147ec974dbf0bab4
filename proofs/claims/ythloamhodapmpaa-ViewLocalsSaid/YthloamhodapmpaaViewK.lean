/-
  Layer 8: the row of somebody's local views.
-/
import Derived.Test.YthloamhodapmpaaViewJ
import Derived.Test.YthloamhodapmpaaViewE
namespace Go.Proofs.Ythloamhodapmpaa
open Go.RowKit Go.Maps
set_option linter.unusedVariables false
set_option linter.unusedSimpArgs false

theorem info_view8 : (Try.prog.info? 26).map (fun i => (i.zero, i.size, i.bytes)) = some (some (.agg #[.int .u64 0, .slice none 0 0, .slice none 0 0, .slice none 0 0]), 4, 80) := by kernel_rfl
theorem OwnE.unlikeV {α β : Type} {enc : α → List Value} {enc' : β → List Value} {k k' : Nat} {T T' : TypeId} {w : World} {base base' n n' : Nat} {v v' : Value} {l : List α} {l' : List β}
    (h : OwnE T enc k w base v n l) (h' : OwnE T' enc' k' w base' v' n' l') (hT : T ≠ T') : v'.ownBlock = none ∨ v'.ownBlock ≠ v.ownBlock := by
  have h0 := h
  rcases h.2 with ⟨rfl, rfl⟩ | ⟨g, cap, cur, rfl, _⟩
  · by_cases e : v'.ownBlock = none
    · exact .inl e
    · exact .inr fun e2 => e e2
  · exact OwnE.unlike h0 h' hT
theorem OwnE.kept_by {α β : Type} {enc : α → List Value} {enc' : β → List Value} {k k' : Nat} {T T' : TypeId} {w w' : World} {base base' n n' : Nat} {v v' : Value} {l : List α} {l' : List β}
    (h : OwnE T enc k w base v n l) (h' : OwnE T' enc' k' w base' v' n' l') (hT : T ≠ T') (hg : w.grownBy w' v.ownBlock) : OwnE T' enc' k' w' base' v' n' l' := World.ownsRow.kept h' hg (OwnE.unlikeV h h' hT)
theorem VwOwn.kept_by {w w' : World} {base base' n : Nat} {v : Value} {l : List Vw} {y : Vw} (hy : VwOwn w base' y) (h : OwnE 26 vwC 4 w base v n l) (hg : w.grownBy w' v.ownBlock) : VwOwn w' base' y :=
  ⟨OwnE.kept_by h hy.ms (by decide) hg, OwnE.kept_by h hy.lv (by decide) hg, fun u hu => OwnE.kept_by h (hy.each u hu) (by decide) hg, OwnE.kept_by h hy.dr (by decide) hg⟩
/-- What Row answers. -/
def RowP (w : World) (r : List Vi) (e : Ending) (w' : World) : Prop := ∃ A' c' ys, e = .returned (.slice A' ys.length c') ∧ OwnE 26 vwC 4 w' w.heap.size (.slice A' ys.length c') ys.length ys ∧ ys.map Vw.v = r ∧ (∀ y ∈ ys, VwOwn w' w.heap.size y ∧ y.id < 18446744073709551616 ∧ VSmall y) ∧ Below w.heap.size w w'
set_option maxRecDepth 100000 in
set_option maxHeartbeats 1000000 in
theorem row_any (A : Option Addr) (n c : Nat) (vs : List Vw) (p : Pr) (B : Nat) (w : World) (zs : List Vi) (hA : Es vwC w B A n vs) (hin : ∀ v ∈ vs, VwIn w B v ∧ VSmall v) (hB : B ≤ w.heap.size) (hn : n ≤ 12)
    (hzl : zs.length = n) (hz : ∀ i (h1 : i < vs.length) (h2 : i < zs.length), LocP vs[i].v p zs[i]) :
    Calls Try.prog 34 #[.slice A n c, .agg #[.int .u16 (p.i : Int), .int .u32 (p.k : Int)]] w (RowP w (rowF zs)) := by
  have hbz : Below w.heap.size w (w.alloc (.cells #[.int .u16 (p.i : Int), .int .u32 (p.k : Int)] 34)) := (Below.refl _ _).alloc (Nat.le_refl _) _
  have p0 : (w.alloc (.cells #[.int .u16 (p.i : Int), .int .u32 (p.k : Int)] 34)).cell? ⟨w.heap.size, 0, none⟩ = some (.int .u16 (p.i : Int)) := by go_simp
  have p1 : (w.alloc (.cells #[.int .u16 (p.i : Int), .int .u32 (p.k : Int)] 34)).cell? ⟨w.heap.size, 1, none⟩ = some (.int .u32 (p.k : Int)) := by go_simp
  have hlen := hA.len
  have HL := hide (And.intro hlen hzl)
  have HIN := hide (And.intro hin hz)
  have s0 := RowTo.start zs
  obtain ⟨i0, hi, hz0, hz1, hz2⟩ := info_partsV info_view8
  clear hlen hzl hin hz
  go_enter Try.func34, Try.ntmps34
  go_wp2
  go_loopw [5, 11] (fun v i wr => ∃ (k q : Nat) (A' : Option Addr) (c' : Nat) (ys : List Vw), k ≤ n ∧ i = .int .i64 k ∧ v = .slice A' q c' ∧ q ≤ k ∧ RowTo zs k (ys.map Vw.v) ∧ OwnE 26 vwC 4 wr (w.heap.size + 1) (.slice A' q c') q ys ∧ (∀ y ∈ ys, VwOwn wr (w.heap.size + 1) y ∧ y.id < 18446744073709551616 ∧ VSmall y) ∧
      wr.cell? ⟨w.heap.size, 0, none⟩ = some (.int .u16 (p.i : Int)) ∧ wr.cell? ⟨w.heap.size, 1, none⟩ = some (.int .u32 (p.k : Int)) ∧ Below w.heap.size w wr ∧ w.heap.size + 1 ≤ wr.heap.size) (fun _ i _ => n - (intOf i).toNat)
  case atStart => exact ⟨0, 0, none, 0, [], Nat.zero_le _, rfl, rfl, Nat.le_refl _, s0, OwnE.nil_ _ _, fun y hy => by simp at hy, p0, p1, hbz, by simp⟩
  case round =>
    clear s0 p0 p1 hbz
    obtain ⟨k, q, A', c', ys, hk, rfl, rfl, hqk, hto, hown, hys, p0, p1, hb, hsz⟩ := hrel
    by_cases hlt : k < n
    · obtain ⟨ad, hl, rfl, _, hcc⟩ := (hA.below (hb.mono hB)).at_ vwOk hlt
      have hkz : k < zs.length := by rw [HL.out.2]; exact hlt
      have hx := HIN.out.1 vs[k] (List.getElem_mem hl)
      have hzk := HIN.out.2 k hl hkz
      have hst := hto.step hkz
      obtain ⟨x, hxe⟩ : ∃ x, x = vs[k] := ⟨_, rfl⟩
      obtain ⟨z, hze⟩ : ∃ z, z = zs[k] := ⟨_, rfl⟩
      rw [← hxe] at hcc hx hzk
      rw [← hze] at hzk hst
      obtain ⟨a0, a1, a2, a3⟩ := vw_at hcc
      have hb1 : Below w.heap.size w (wr.alloc (.cells #[.int .u64 (x.id : Int), .slice x.A x.m x.c, .slice x.B x.d x.e, .slice x.C x.f x.g] 26)) := hb.alloc hb.size _
      have cl := local_any x p B (wr.alloc (.cells #[.int .u64 (x.id : Int), .slice x.A x.m x.c, .slice x.B x.d x.e, .slice x.C x.f x.g] 26)) z (hx.1.below (hb1.mono hB)) hx.2 (Nat.le_trans hB hb1.size) hzk
      unfold LocalP at cl
      have own1 := hown.alloc (.cells #[.int .u64 (x.id : Int), .slice x.A x.m x.c, .slice x.B x.d x.e, .slice x.C x.f x.g] 26)
      have ys1 : ∀ y ∈ ys, VwOwn (wr.alloc (.cells #[.int .u64 (x.id : Int), .slice x.A x.m x.c, .slice x.B x.d x.e, .slice x.C x.f x.g] 26)) (w.heap.size + 1) y ∧ y.id < 18446744073709551616 ∧ VSmall y := fun y hy => ⟨(hys y hy).1.later ((Below.refl _ _).alloc (Nat.le_refl _) _), (hys y hy).2⟩
      have hzhi := locP_hi hzk
      have e0 : (wr.alloc (.cells #[.int .u64 (x.id : Int), .slice x.A x.m x.c, .slice x.B x.d x.e, .slice x.C x.f x.g] 26)).cell? ⟨w.heap.size, 0, none⟩ = some (.int .u16 (p.i : Int)) := cellL p0 ((Below.refl _ _).alloc (Nat.le_refl _) _)
      have e1 : (wr.alloc (.cells #[.int .u64 (x.id : Int), .slice x.A x.m x.c, .slice x.B x.d x.e, .slice x.C x.f x.g] 26)).cell? ⟨w.heap.size, 1, none⟩ = some (.int .u32 (p.k : Int)) := cellL p1 ((Below.refl _ _).alloc (Nat.le_refl _) _)
      have hszx : wr.heap.size + 1 ≤ (wr.alloc (.cells #[.int .u64 (x.id : Int), .slice x.A x.m x.c, .slice x.B x.d x.e, .slice x.C x.f x.g] 26)).heap.size := by simp
      clear hxe hze hcc hzk hto hx
      go_wp2_with fail
      refine cl.mono ?_
      rintro e9 w2 ⟨y, rfl, hyv, hyo, hys2, hb2⟩
      have hb3 := hb1.trans (hb2.mono hb1.size)
      have own2 := OwnE.later own1 hb2
      have ys2 : ∀ u ∈ ys, VwOwn w2 (w.heap.size + 1) u ∧ u.id < 18446744073709551616 ∧ VSmall u := fun u hu => ⟨(ys1 u hu).1.later hb2, (ys1 u hu).2⟩
      have f0 := cellL e0 hb2
      have f1 := cellL e1 hb2
      have hyo2 := hyo.mono (base' := w.heap.size + 1) (by omega)
      have hsz2 : w.heap.size + 1 + 1 ≤ w2.heap.size := by have := hb2.size; omega
      have hyid : y.id < 18446744073709551616 := by
        have : y.id = z.id := by rw [← hyv]; rfl
        omega
      have hzid : z.id = y.id := by rw [← hyv]; rfl
      have hzm : z.mem = y.l := by rw [← hyv]; rfl
      have hb4 : Below w.heap.size w (w2.alloc (.cells #[.int .u64 (y.id : Int), .slice y.A y.m y.c, .slice y.B y.d y.e, .slice y.C y.f y.g] 26)) := hb3.alloc hb3.size _
      have own3 := own2.alloc (.cells #[.int .u64 (y.id : Int), .slice y.A y.m y.c, .slice y.B y.d y.e, .slice y.C y.f y.g] 26)
      have hl3 : Below w2.heap.size w2 (w2.alloc (.cells #[.int .u64 (y.id : Int), .slice y.A y.m y.c, .slice y.B y.d y.e, .slice y.C y.f y.g] 26)) := (Below.refl _ _).alloc (Nat.le_refl _) _
      have ys3 : ∀ u ∈ ys, VwOwn (w2.alloc (.cells #[.int .u64 (y.id : Int), .slice y.A y.m y.c, .slice y.B y.d y.e, .slice y.C y.f y.g] 26)) (w.heap.size + 1) u ∧ u.id < 18446744073709551616 ∧ VSmall u := fun u hu => ⟨(ys2 u hu).1.later hl3, (ys2 u hu).2⟩
      have g0 := cellL f0 hl3
      have g1 := cellL f1 hl3
      have hyo3 := hyo2.later hl3
      have v3 := VAt.mk_ w2 y
      obtain ⟨b0, b1, b2, b3⟩ := v3.cells
      have hsz3 : w.heap.size + 1 ≤ (w2.alloc (.cells #[.int .u64 (y.id : Int), .slice y.A y.m y.c, .slice y.B y.d y.e, .slice y.C y.f y.g] 26)).heap.size := by simp; omega
      have hlv : (ys.map Vw.v).length = q := by rw [List.length_map]; exact OwnE.len vwOk hown
      have HY := hide (And.intro hyo3 (And.intro hyid (And.intro hys2 hyv)))
      have HYS := hide ys3
      clear cl hb1 hb2 hb3 own1 own2 ys1 ys2 hys hown e0 e1 f0 f1 hyo hyo2 hys2 hyid hyo3 ys3 a0 a1 a2 a3 hb p0 p1 hl3 hsz hszx
      by_cases hy0 : y.id = 0
      · rw [rowS_zero (by rw [hzid]; exact hy0)] at hst
        have u1 : ((y.id : Int) == 0) = true := by rw [hy0]; rfl
        have HS := hide hst
        clear hst hzid hzm hyv hy0
        go_wp2
        go_roundw
        case rel => exact ⟨k + 1, q, A', c', ys, by omega, by go_num, rfl, by omega, HS.out, own3, HYS.out, g0, g1, hb4, hsz3⟩
        case measure => simp [intOf]; omega
      have u1 : ((y.id : Int) == 0) = false := by simp only [beq_eq_false_iff_ne, ne_eq]; omega
      have hz0' : z.id ≠ 0 := by rw [hzid]; exact hy0
      have g2 := Later.cell g0
      have g3 := Later.cell g1
      have f0 := Later.cell b0
      have f1 := Later.cell b1
      have f2 := Later.cell b2
      have f3 := Later.cell b3
      by_cases hq0 : q = 0
      · have hys0 : ys = [] := List.eq_nil_of_length_eq_zero (by rw [OwnE.len vwOk own3, hq0])
        have x3 : ((q : Int) == 0) = true := by rw [hq0]; rfl
        rw [rowS_new hz0' (by rw [hys0]; simp)] at hst
        have HS := hide hst
        have kq : True := trivial
        have e4 : True := trivial
        have e5 : True := trivial
        clear hst hzid hzm hyv hz0' hys0 hq0
        go_wp2_with fail
        refine wp_region_calm (by kernel_rfl) (by kernel_rfl) ?_
        repeat (go_big_quiet_step (first | (go_at_call 54; with_reducible exact kq _)))
        refine wpQuiet_nil ?_
        rintro _ ⟨x9, rfl⟩
        have hb9 := x9.below
        generalize x9.w = w9 at hb9 ⊢
        clear g2 g3 f0 f1 f2 f3
        have v10 := v3.later hb9
        have own10 := OwnE.later own3 hb9
        have r0 := cellL g0 hb9
        have r1 := cellL g1 hb9
        have hb10 := hb4.trans (hb9.mono hb4.size)
        have hsz10 : w.heap.size + 1 ≤ w9.heap.size := Nat.le_trans hsz3 hb9.size
        have hlit : Es vwC (w9.alloc (.cells #[.int .u64 (y.id : Int), .slice y.A y.m y.c, .slice y.B y.d y.e, .slice y.C y.f y.g] 26)) (w9.heap.size + 1) (some ⟨w9.heap.size, 0, none⟩) 1 [y] := es_block (heap_alloc_new w9 _) (by simp [ec, vwC]) rfl
        have HB := hide hb10
        have HG := hide (And.intro g0 (And.intro g1 hb9))
        obtain ⟨b0', b1', b2', b3'⟩ := v10.cells
        clear e4 e5 kq v3 own3 g0 g1 hb4 hsz3 b0 b1 b2 b3 hb9 hb10
        go_wp2_with (at_builtin; refine wp_append_e _ rfl (.tmp 37) (.tmp 39) 60 rfl 26 i0 _ 80 Try.underlying60 hi hz0 hz1 hz2 rfl vwOk (w.heap.size + 1) q _ ys rfl (own10.alloc _) (w9.heap.size + 1) _ 1 1 [y] rfl hlit (by unfold maxLen; omega) (by omega) w.heap.size w (HB.out.alloc HB.out.size _) (Nat.le_succ _) (by simp; omega) ?_; intro A2 c2 w5 t1 t2 t3 t4; refine Hid.out ?_)
        have t5 : (w9.alloc (.cells #[.int .u64 (y.id : Int), .slice y.A y.m y.c, .slice y.B y.d y.e, .slice y.C y.f y.g] 26)).grownBy w5 (Value.slice A' q c').ownBlock := t4
        have t6 : OwnE 26 vwC 4 w5 (w.heap.size + 1) (.slice A2 (q + 1) c2) (q + 1) (ys ++ [y]) := t1
        have hl9 : Below w9.heap.size w9 (w9.alloc (.cells #[.int .u64 (y.id : Int), .slice y.A y.m y.c, .slice y.B y.d y.e, .slice y.C y.f y.g] 26)) := (Below.refl _ _).alloc (Nat.le_refl _) _
        have own11 := own10.alloc (.cells #[.int .u64 (y.id : Int), .slice y.A y.m y.c, .slice y.B y.d y.e, .slice y.C y.f y.g] 26)
        have hb9' := HG.out.2.2
        have t7 : ∀ u ∈ ys ++ [y], VwOwn w5 (w.heap.size + 1) u ∧ u.id < 18446744073709551616 ∧ VSmall u := fun u hu => by
          rw [List.mem_append, List.mem_singleton] at hu
          rcases hu with hu | rfl
          · have h1 := HYS.out u hu
            exact ⟨(((h1.1.later hb9').later hl9).kept_by own11 t5), h1.2⟩
          · exact ⟨(((HY.out.1.later hb9').later hl9).kept_by own11 t5), HY.out.2.1, HY.out.2.2.1⟩
        have hne0 : some w.heap.size ≠ (Value.slice A' q c').ownBlock := fun e => by have := (own11.lt _ e.symm).1; omega
        have q0 : w5.cell? ⟨w.heap.size, 0, none⟩ = some (.int .u16 (p.i : Int)) := t5.cell (cellL r0 hl9) hne0
        have q1 : w5.cell? ⟨w.heap.size, 1, none⟩ = some (.int .u32 (p.k : Int)) := t5.cell (cellL r1 hl9) hne0
        have q2 : w.heap.size + 1 ≤ w5.heap.size := by simp at t3; omega
        have q3 : RowTo zs (k + 1) ((ys ++ [y]).map Vw.v) := by
          rw [List.map_append, List.map_cons, List.map_nil, HY.out.2.2.2]
          exact HS.out
        have HR := hide (And.intro q3 (And.intro t6 (And.intro t7 (And.intro q0 (And.intro q1 (And.intro t2 q2))))))
        refine Lib.hid ?_
        clear t1 t2 t3 t4 t5 t6 t7 hl9 own11 hb9' hne0 q0 q1 q2 q3 HY HYS HS HB HG own10 v10 r0 r1 hlit b0' b1' b2' b3' hsz10
        go_wp2_with fail
        go_roundw
        case rel => exact ⟨k + 1, q + 1, A2, c2, ys ++ [y], by omega, by go_num, rfl, by omega, HR.out⟩
        case measure => simp [intOf]; omega
      · obtain ⟨m, hqm⟩ : ∃ m, q = m + 1 := ⟨q - 1, by omega⟩
        obtain ⟨gq, rfl, hg1, hg2⟩ := OwnE.form own3 (by omega)
        have hyl : ys.length = m + 1 := by rw [OwnE.len vwOk own3, hqm]
        have hmy : m < ys.length := by omega
        have e4 := Later.cell (OwnE.cell_ vwOk own3 hmy (show 1 < 4 by decide) (v := .slice ys[m].A ys[m].m ys[m].c) rfl)
        obtain ⟨hlm, hla⟩ := last_at (acc := ys.map Vw.v) (n := m) (by rw [List.length_map, hyl])
        have hym := HYS.out ys[m] (List.getElem_mem hmy)
        have hlast : (ys.map Vw.v).getLast?.map Vi.mem = some ys[m].l := by rw [hla]; simp [Vw.v]
        obtain ⟨u, hu⟩ : ∃ u, u = ys[m] := ⟨_, rfl⟩
        rw [← hu] at e4 hym hlast
        have kq := fun Z : Later (w2.alloc (.cells #[.int .u64 (y.id : Int), .slice y.A y.m y.c, .slice y.B y.d y.e, .slice y.C y.f y.g] 26)) => calm_drawn (sequal_any y.A u.A y.m u.m y.c u.c y.l u.l Z.w.heap.size Z.w.heap.size Z.w ((HY.out.1.later Z.below).in_ HY.out.2.1).es ((hym.1.later Z.below).in_ hym.2.1).es ((HY.out.1.later Z.below).in_ HY.out.2.1).m_le ((hym.1.later Z.below).in_ hym.2.1).m_le)
        have e5 : (q : Int) - 1 = (m : Int) := by omega
        have x1 : (0 : Int) ≤ (m : Int) := by omega
        have x2 : (m : Int) < (q : Int) := by omega
        have x3 : ((q : Int) == 0) = false := by simp only [beq_eq_false_iff_ne, ne_eq]; omega
        obtain ⟨t, ht⟩ : ∃ t, t = decide (y.l = u.l) := ⟨_, rfl⟩
        rw [← ht] at kq
        clear hu hla hym hyl hmy hqm
        cases t
        · rw [rowS_new hz0' (by rw [hlast, hzm]; intro e; injection e with e; exact of_decide_eq_false ht.symm e.symm)] at hst
          have HS := hide hst
          clear hst hzid hzm hyv hz0' hlast ht
          go_wp2_with fail
          refine wp_region_calm (by kernel_rfl) (by kernel_rfl) ?_
          repeat (go_big_quiet_step (first | (go_at_call 54; with_reducible exact kq _)))
          refine wpQuiet_nil ?_
          rintro _ ⟨x9, rfl⟩
          have hb9 := x9.below
          generalize x9.w = w9 at hb9 ⊢
          clear g2 g3 f0 f1 f2 f3 x1 x2 x3
          have v10 := v3.later hb9
          have own10 := OwnE.later own3 hb9
          have r0 := cellL g0 hb9
          have r1 := cellL g1 hb9
          have hb10 := hb4.trans (hb9.mono hb4.size)
          have hsz10 : w.heap.size + 1 ≤ w9.heap.size := Nat.le_trans hsz3 hb9.size
          have hlit : Es vwC (w9.alloc (.cells #[.int .u64 (y.id : Int), .slice y.A y.m y.c, .slice y.B y.d y.e, .slice y.C y.f y.g] 26)) (w9.heap.size + 1) (some ⟨w9.heap.size, 0, none⟩) 1 [y] := es_block (heap_alloc_new w9 _) (by simp [ec, vwC]) rfl
          have HB := hide hb10
          have HG := hide (And.intro g0 (And.intro g1 hb9))
          obtain ⟨b0', b1', b2', b3'⟩ := v10.cells
          clear e4 e5 kq v3 own3 g0 g1 hb4 hsz3 b0 b1 b2 b3 hb9 hb10
          go_wp2_with (at_builtin; refine wp_append_e _ rfl (.tmp 37) (.tmp 39) 60 rfl 26 i0 _ 80 Try.underlying60 hi hz0 hz1 hz2 rfl vwOk (w.heap.size + 1) q _ ys rfl (own10.alloc _) (w9.heap.size + 1) _ 1 1 [y] rfl hlit (by unfold maxLen; omega) (by omega) w.heap.size w (HB.out.alloc HB.out.size _) (Nat.le_succ _) (by simp; omega) ?_; intro A2 c2 w5 t1 t2 t3 t4; refine Hid.out ?_)
          have t5 : (w9.alloc (.cells #[.int .u64 (y.id : Int), .slice y.A y.m y.c, .slice y.B y.d y.e, .slice y.C y.f y.g] 26)).grownBy w5 (Value.slice (some ⟨gq, 0, none⟩) q c').ownBlock := t4
          have t6 : OwnE 26 vwC 4 w5 (w.heap.size + 1) (.slice A2 (q + 1) c2) (q + 1) (ys ++ [y]) := t1
          have hl9 : Below w9.heap.size w9 (w9.alloc (.cells #[.int .u64 (y.id : Int), .slice y.A y.m y.c, .slice y.B y.d y.e, .slice y.C y.f y.g] 26)) := (Below.refl _ _).alloc (Nat.le_refl _) _
          have own11 := own10.alloc (.cells #[.int .u64 (y.id : Int), .slice y.A y.m y.c, .slice y.B y.d y.e, .slice y.C y.f y.g] 26)
          have hb9' := HG.out.2.2
          have t7 : ∀ u ∈ ys ++ [y], VwOwn w5 (w.heap.size + 1) u ∧ u.id < 18446744073709551616 ∧ VSmall u := fun u hu => by
            rw [List.mem_append, List.mem_singleton] at hu
            rcases hu with hu | rfl
            · have h1 := HYS.out u hu
              exact ⟨(((h1.1.later hb9').later hl9).kept_by own11 t5), h1.2⟩
            · exact ⟨(((HY.out.1.later hb9').later hl9).kept_by own11 t5), HY.out.2.1, HY.out.2.2.1⟩
          have hne0 : some w.heap.size ≠ (Value.slice (some ⟨gq, 0, none⟩) q c').ownBlock := fun e => by have := (own11.lt _ e.symm).1; omega
          have q0 : w5.cell? ⟨w.heap.size, 0, none⟩ = some (.int .u16 (p.i : Int)) := t5.cell (cellL r0 hl9) hne0
          have q1 : w5.cell? ⟨w.heap.size, 1, none⟩ = some (.int .u32 (p.k : Int)) := t5.cell (cellL r1 hl9) hne0
          have q2 : w.heap.size + 1 ≤ w5.heap.size := by simp at t3; omega
          have q3 : RowTo zs (k + 1) ((ys ++ [y]).map Vw.v) := by
            rw [List.map_append, List.map_cons, List.map_nil, HY.out.2.2.2]
            exact HS.out
          have HR := hide (And.intro q3 (And.intro t6 (And.intro t7 (And.intro q0 (And.intro q1 (And.intro t2 q2))))))
          refine Lib.hid ?_
          clear t1 t2 t3 t4 t5 t6 t7 hl9 own11 hb9' hne0 q0 q1 q2 q3 HY HYS HS HB HG own10 v10 r0 r1 hlit b0' b1' b2' b3' hsz10
          go_wp2_with fail
          go_roundw
          case rel => exact ⟨k + 1, q + 1, A2, c2, ys ++ [y], by omega, by go_num, rfl, by omega, HR.out⟩
          case measure => simp [intOf]; omega
        · rw [rowS_same hz0' (by rw [hlast, hzm, of_decide_eq_true ht.symm])] at hst
          have HS := hide hst
          clear hst hzid hzm hyv hz0' hlast ht
          go_wp2_with fail
          refine wp_region_calm (by kernel_rfl) (by kernel_rfl) ?_
          repeat (go_big_quiet_step (first | (go_at_call 54; with_reducible exact kq _)))
          refine wpQuiet_nil ?_
          rintro _ ⟨x9, rfl⟩
          have hb9 := x9.below
          generalize x9.w = w9 at hb9 ⊢
          have hb10 := hb4.trans (hb9.mono hb4.size)
          have own10 := OwnE.later own3 hb9
          have ys10 : ∀ u ∈ ys, VwOwn w9 (w.heap.size + 1) u ∧ u.id < 18446744073709551616 ∧ VSmall u := fun u hu => ⟨(HYS.out u hu).1.later hb9, (HYS.out u hu).2⟩
          have r0 := cellL g0 hb9
          have r1 := cellL g1 hb9
          have hsz10 : w.heap.size + 1 ≤ w9.heap.size := Nat.le_trans hsz3 hb9.size
          have HR := hide (And.intro HS.out (And.intro own10 (And.intro ys10 (And.intro r0 (And.intro r1 (And.intro hb10 hsz10))))))
          clear g2 g3 f0 f1 f2 f3 x1 x2 x3 e4 e5 kq v3 own3 g0 g1 hb4 hsz3 b0 b1 b2 b3 hb9 hb10 own10 ys10 r0 r1 hsz10 HS HY HYS
          go_wp2
          go_roundw
          case rel => exact ⟨k + 1, q, some ⟨gq, 0, none⟩, c', ys, by omega, by go_num, rfl, by omega, HR.out⟩
          case measure => simp [intOf]; omega
    · have hd := hto.done (by rw [HL.out.2]; omega)
      have hlq : ys.length = q := OwnE.len vwOk hown
      have HF := hide (And.intro hd (And.intro hown (And.intro hys (And.intro hb hlq))))
      clear hd hown hys hb hlq hto
      go_wp2
      go_ret
      obtain ⟨hd, hown, hys, hb, hlq⟩ := HF.out
      subst hlq
      exact ⟨A', c', ys, rfl, OwnE.mono hown (Nat.le_succ _), hd, fun y hy => ⟨(hys y hy).1.mono (Nat.le_succ _), (hys y hy).2⟩, hb⟩
end Go.Proofs.Ythloamhodapmpaa
