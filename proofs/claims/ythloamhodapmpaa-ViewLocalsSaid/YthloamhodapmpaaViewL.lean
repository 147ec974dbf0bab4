/-
  Layer 8, the document's: the row of somebody's local views.
-/
import Derived.Test.YthloamhodapmpaaViewK
import Derived.Test.YthloamhodapmpaaFlowA
namespace Go.Proofs.Ythloamhodapmpaa
open Go.RowKit Go.Maps
set_option linter.unusedVariables false
set_option linter.unusedSimpArgs false

theorem zeroView8 (w : World) : (zeroValue 26).run Try.prog w = .ok (.agg #[.int .u64 0, .slice none 0 0, .slice none 0 0, .slice none 0 0]) w := by kernel_rfl
/-- A view below B, as a value. -/
def RLocW (B : Nat) (z : Vi) (v : Value) (w : World) : Prop := ∃ y : Vw, v = .agg #[.int .u64 (y.id : Int), .slice y.A y.m y.c, .slice y.B y.d y.e, .slice y.C y.f y.g] ∧ y.v = z ∧ VwIn w B y ∧ VSmall y ∧ B ≤ w.heap.size
theorem rLocW_steady (B : Nat) (z : Vi) : Steady (RLocW B z) := fun v w w' ⟨y, e, h1, h2, h3, hB⟩ hb => ⟨y, e, h1, h2.below (hb.mono hB), h3, Nat.le_trans hB hb.size⟩
/-- What the document's Row answers. -/
def RRowP (w : World) (B : Nat) (r : List Vi) (e : Ending) (w' : World) : Prop := ∃ A' c' ys, e = .returned (.slice A' ys.length c') ∧ OwnE 26 vwC 4 w' w.heap.size (.slice A' ys.length c') ys.length ys ∧ ys.map Vw.v = r ∧ (∀ y ∈ ys, VwIn w' B y) ∧ Below w.heap.size w w'
theorem below_put4 {base : Nat} {w w' : World} {g : Nat} {y : Vw} (h : Below base w w') (hg : base ≤ g) : Below base w (put4 w' g y) := (((h.setCell (by simp; omega) _).setCell (by simp; omega) _).setCell (by simp; omega) _).setCell (by simp; omega) _
theorem OwnE.unlike_blk {α : Type} {enc : α → List Value} {k : Nat} {T T' : TypeId} {w : World} {base n g : Nat} {v : Value} {l : List α} {cs : Array Value} {fr : Nat × Nat} (h : OwnE T enc k w base v n l) (hT : T ≠ T') (hg : w.heap[g]? = some (.cells cs T' fr)) : v.ownBlock = none ∨ v.ownBlock ≠ some g := by
  rcases h.2 with ⟨rfl, _⟩ | ⟨g', cap', cur', rfl, _, hg', _⟩
  · exact .inl rfl
  · right
    intro e
    have e2 : g' = g := by simpa [Value.ownBlock] using e
    subst e2
    rw [hg'] at hg
    injection hg with hg
    injection hg with _ h2
    exact hT h2
theorem OwnE.put4_ {α : Type} {enc : α → List Value} {k : Nat} {T : TypeId} {w : World} {base n g : Nat} {v : Value} {l : List α} {x : Vw} (h : OwnE T enc k w base v n l) (hT : T ≠ 26) (hx : VAt w g x) (y : Vw) : OwnE T enc k (put4 w g y) base v n l := by
  have hn := OwnE.unlike_blk h hT hx
  exact (((h.set_other (a := ⟨g, 0, none⟩) _ hn).set_other (a := ⟨g, 1, none⟩) _ hn).set_other (a := ⟨g, 2, none⟩) _ hn).set_other (a := ⟨g, 3, none⟩) _ hn
theorem VwOwn.put4_ {w : World} {base g : Nat} {x u : Vw} (h : VwOwn w base u) (hx : VAt w g x) (y : Vw) : VwOwn (put4 w g y) base u :=
  ⟨OwnE.put4_ h.ms (by decide) hx y, OwnE.put4_ h.lv (by decide) hx y, fun z hz => OwnE.put4_ (h.each z hz) (by decide) hx y, OwnE.put4_ h.dr (by decide) hx y⟩
theorem rowS_len (acc : List Vi) (z : Vi) : (rowS acc z).length ≤ acc.length + 1 := by
  unfold rowS
  split
  · omega
  · split
    · omega
    · simp
theorem fold_rowS_len : ∀ (zs acc : List Vi), (zs.foldl rowS acc).length ≤ acc.length + zs.length
  | [], acc => by simp
  | z :: zs, acc => by
    have h1 := fold_rowS_len zs (rowS acc z)
    have h2 := rowS_len acc z
    rw [List.foldl_cons, List.length_cons]
    omega
theorem rowF_len (zs : List Vi) : (rowF zs).length ≤ zs.length := by
  have := fold_rowS_len zs []
  simpa [rowF] using this
set_option maxRecDepth 100000 in
set_option maxHeartbeats 2000000 in
theorem rrow_any (A : Option Addr) (n c : Nat) (vs : List Vw) (p : Pr) (B : Nat) (w : World) (zs : List Vi) (hA : Es vwC w B A n vs) (hin : ∀ v ∈ vs, VwIn w B v ∧ VSmall v) (hB : B ≤ w.heap.size) (hn : n ≤ 12)
    (hzl : zs.length = n) (hz : ∀ i (h1 : i < vs.length) (h2 : i < zs.length), LocP vs[i].v p zs[i]) :
    Calls Try.prog 35 #[.slice A n c, .agg #[.int .u16 (p.i : Int), .int .u32 (p.k : Int)]] w (RRowP w B (rowF zs)) := by
  have hbz : Below w.heap.size w (w.alloc (.cells #[.int .u16 (p.i : Int), .int .u32 (p.k : Int)] 34)) := (Below.refl _ _).alloc (Nat.le_refl _) _
  have p0 : (w.alloc (.cells #[.int .u16 (p.i : Int), .int .u32 (p.k : Int)] 34)).cell? ⟨w.heap.size, 0, none⟩ = some (.int .u16 (p.i : Int)) := by go_simp
  have p1 : (w.alloc (.cells #[.int .u16 (p.i : Int), .int .u32 (p.k : Int)] 34)).cell? ⟨w.heap.size, 1, none⟩ = some (.int .u32 (p.k : Int)) := by go_simp
  have hlen := hA.len
  have HL := hide (And.intro hlen hzl)
  have HIN := hide (And.intro hin hz)
  have s0 := RowTo.start zs
  obtain ⟨i0, hi, hz0, hz1, hz2⟩ := info_partsV info_view8
  clear hlen hzl hin hz
  go_enter Try.func35, Try.ntmps35
  go_wp2
  go_loopw [5, 6] (fun v i wr => ∃ (k q : Nat) (A' : Option Addr) (c' : Nat) (ys : List Vw), k ≤ n ∧ i = .int .i64 k ∧ v = .slice A' q c' ∧ q ≤ k ∧ RowTo zs k (ys.map Vw.v) ∧ OwnE 26 vwC 4 wr (w.heap.size + 1) (.slice A' q c') q ys ∧ (∀ y ∈ ys, VwIn wr B y) ∧
      wr.cell? ⟨w.heap.size, 0, none⟩ = some (.int .u16 (p.i : Int)) ∧ wr.cell? ⟨w.heap.size, 1, none⟩ = some (.int .u32 (p.k : Int)) ∧ Below w.heap.size w wr ∧ w.heap.size + 1 ≤ wr.heap.size) (fun _ i _ => n - (intOf i).toNat)
  case atStart => exact ⟨0, 0, none, 0, [], Nat.zero_le _, rfl, rfl, Nat.le_refl _, s0, OwnE.nil_ _ _, fun y hy => by simp at hy, p0, p1, hbz, by simp⟩
  case round =>
    clear s0 p0 p1 hbz
    obtain ⟨k, q, A', c', ys, hk, rfl, rfl, hqk, hto, hown, hys, p0, p1, hb, hsz⟩ := hrel
    by_cases hlt : k < n
    · obtain ⟨ad, hl, rfl, _, hcc⟩ := (hA.below (hb.mono hB)).at_ vwOk hlt
      have hkz : k < zs.length := by rw [HL.out.2]; exact hlt
      have hx := HIN.out.1 vs[k] (List.getElem_mem hl)
      have hzk := HIN.out.2 k hl hkz
      have hst := hto.step hkz
      obtain ⟨x, hxe⟩ : ∃ x, x = vs[k] := ⟨_, rfl⟩
      obtain ⟨z, hze⟩ : ∃ z, z = zs[k] := ⟨_, rfl⟩
      rw [← hxe] at hcc hx hzk
      rw [← hze] at hzk hst
      obtain ⟨a0, a1, a2, a3⟩ := vw_at hcc
      have hBr : B ≤ wr.heap.size := Nat.le_trans hB hb.size
      have n1 := fun W (h : Below wr.heap.size wr W) => rlocal_any x p B W z (hx.1.below ((hb.trans (h.mono hb.size)).mono hB)) hx.2 (Nat.le_trans hBr h.size) hzk
      unfold RLocalP at n1
      have k1 := fun W (h : Below wr.heap.size wr W) => And.intro (cellL a0 h) (And.intro (cellL a1 h) (And.intro (cellL a2 h) (cellL a3 h)))
      have k2 := fun W (h : Below wr.heap.size wr W) => And.intro (cellL p0 h) (cellL p1 h)
      have x1 : (0 : Int) ≤ (k : Int) := by omega
      have x2 : (k : Int) < (n : Int) := by omega
      have x3 : k < n := hlt
      clear hxe hze hcc hzk hto hx a0 a1 a2 a3
      go_wp2_with fail
      refine wp_region_flow_tail 7 (by kernel_rfl) (by kernel_rfl) (by kernel_rfl) ?_
      simp only [List.take_succ_cons, List.take_zero, List.drop_succ_cons, List.drop_zero]
      refine flow_val rfl ?_
      apply Exists.intro
      apply And.intro
      · intro ρ w8 hr hf
        have r1 := hr.const
        have r2 := hr.func
        try simp [Oper.looksAt, Op.operands, Call.operands, tput, frameW, Act.eval] at hf
        go_simp
        try rfl
      refine flow_val rfl ?_
      apply Exists.intro
      apply And.intro
      · intro ρ w8 hr hf
        have r1 := hr.const
        have r2 := hr.func
        try simp [Oper.looksAt, Op.operands, Call.operands, tput, frameW, Act.eval] at hf
        go_simp
        try rfl
      refine flow_val rfl ?_
      apply Exists.intro
      apply And.intro
      · intro ρ w8 hr hf
        have r1 := hr.const
        have r2 := hr.func
        try simp [Oper.looksAt, Op.operands, Call.operands, tput, frameW, Act.eval] at hf
        go_simp
        try rfl
      refine flow_pure (.agg #[.int .u64 (x.id : Int), .slice x.A x.m x.c, .slice x.B x.d x.e, .slice x.C x.f x.g]) rfl ?_ ?_
      · intro ρ w8 hr hw hf
        obtain ⟨h8, h9, h10, h11⟩ := k1 w8 hw
        try simp [Oper.looksAt, Op.operands, Call.operands, tput, frameW, Act.eval] at hf
        go_simp
      refine flow_pure (.agg #[.int .u16 (p.i : Int), .int .u32 (p.k : Int)]) rfl ?_ ?_
      · intro ρ w8 hr hw hf
        have h8 := (k2 w8 hw).1
        have h9 := (k2 w8 hw).2
        try simp [Oper.looksAt, Op.operands, Call.operands, tput, frameW, Act.eval] at hf
        go_simp
      refine flow_step (RLocW B z) rfl (rLocW_steady _ _) ?_ ?_
      · intro ρ w8 hr hw hf
        have r2 := hr.func
        simp [Oper.looksAt, Op.operands, Call.operands, tput, frameW, Act.eval] at hf
        have CN := hide (n1 w8 hw)
        go_simp
        refine ⟨Below.refl _ _, (unhide CN).mono ?_⟩
        rintro e w7 ⟨y, rfl, hy1, hy2, hy3, hb7⟩
        exact ⟨_, rfl, hb7, y, rfl, hy1, hy2, hy3, Nat.le_trans hBr (Nat.le_trans hw.size hb7.size)⟩
      refine flow_alloc zeroView8 rfl rfl ?_
      refine flow_nil ?_
      intro f9 w9 hb9 hf
      have g19 := hf 19
      simp [tput, frameW, Act.eval] at g19
      obtain ⟨y, g19, hyv, hyin, hysm, _⟩ := g19
      have g7 := hf 7
      simp [tput, frameW, Act.eval] at g7
      obtain ⟨gv, g7, hgv, hgc⟩ := g7
      have z9 : VAt w9 gv zeroX := hgc
      have g0 := hf 0; simp [tput, frameW, Act.eval] at g0
      have g1 := hf 1; simp [tput, frameW, Act.eval] at g1
      have g2 := hf 2; simp [tput, frameW, Act.eval] at g2
      have g3 := hf 3; simp [tput, frameW, Act.eval] at g3
      have g4 := hf 4; simp [tput, frameW, Act.eval] at g4
      have g5 := hf 5; simp [tput, frameW, Act.eval] at g5
      have g6 := hf 6; simp [tput, frameW, Act.eval] at g6
      have g8 := hf 8; simp [tput, frameW, Act.eval] at g8
      have g9 := hf 9; simp [tput, frameW, Act.eval] at g9
      have g10 := hf 10; simp [tput, frameW, Act.eval] at g10
      have g11 := hf 11; simp [tput, frameW, Act.eval] at g11
      have g12 := hf 12; simp [tput, frameW, Act.eval] at g12
      have g13 := hf 13; simp [tput, frameW, Act.eval] at g13
      have g42 := hf 42; simp [tput, frameW, Act.eval] at g42
      rw [show frameOf f9 _ _ = ⟨#[f9 0, f9 1, f9 2, f9 3, f9 4, f9 5, f9 6, f9 7, f9 8, f9 9, f9 10, f9 11, f9 12, f9 13, f9 14, f9 15, f9 16, f9 17, f9 18, f9 19, f9 20, f9 21, f9 22, f9 23, f9 24, f9 25, f9 26, f9 27, f9 28, f9 29, f9 30, f9 31, f9 32, f9 33, f9 34, f9 35, f9 36, f9 37, f9 38, f9 39, f9 40, f9 41, f9 42], []⟩ from rfl, g19, g7, g0, g1, g2, g3, g4, g5, g6, g8, g9, g10, g11, g12, g13, g42]
      clear hf n1 k1 k2 hgc
      have hb3 : Below w.heap.size w (put4 w9 gv y) := below_put4 (hb.trans (hb9.mono hb.size)) (Nat.le_trans hb.size hgv)
      have hbr : Below wr.heap.size wr (put4 w9 gv y) := below_put4 hb9 hgv
      have hB9 : Below B w9 (put4 w9 gv y) := below_put4 (Below.refl _ _) (Nat.le_trans hBr hgv)
      have own3 := OwnE.later hown hbr
      have ys3 : ∀ u ∈ ys, VwIn (put4 w9 gv y) B u := fun u hu => (hys u hu).below (hbr.mono hBr)
      have g0' := cellL p0 hbr
      have g1' := cellL p1 hbr
      have hyin3 := hyin.below hB9
      have v3 := z9.put y
      obtain ⟨b0, b1, b2, b3⟩ := v3.cells
      have hsz3 : w.heap.size + 1 ≤ (put4 w9 gv y).heap.size := Nat.le_trans hsz hbr.size
      have hzid : z.id = y.id := by rw [← hyv]; rfl
      have hzm : z.mem = y.l := by rw [← hyv]; rfl
      have HY := hide (And.intro hyin3 hyv)
      have HYS := hide ys3
      have hyq : ys.length = q := OwnE.len vwOk own3
      obtain ⟨j0, j1, j2, j3⟩ := z9.cells
      simp only [zeroX] at j0 j1 j2 j3
      have w0 := z9.fz 0
      have w1 := z9.fz 1
      have w2 := z9.fz 2
      have w3 := z9.fz 3
      have w4 := z9.lt
      clear hyin hyin3 ys3 hys hown hB9 hbr hb z9 hb9 p0 p1 x1 x2 x3
      have hw3 : (((w9.setCell ⟨gv, 0, none⟩ (.int .u64 (y.id : Int))).setCell ⟨gv, 1, none⟩ (.slice y.A y.m y.c)).setCell ⟨gv, 2, none⟩ (.slice y.B y.d y.e)).setCell ⟨gv, 3, none⟩ (.slice y.C y.f y.g) = put4 w9 gv y := rfl
      have w3' := w3
      clear w3
      generalize put4 w9 gv y = w3 at *
      have hs3B : B ≤ w3.heap.size := Nat.le_trans hB hb3.size
      have hyin3B := HY.out.1
      by_cases hy0 : y.id = 0
      · rw [rowS_zero (by rw [hzid]; exact hy0)] at hst
        have u1 : ((y.id : Int) == 0) = true := by rw [hy0]; rfl
        have HS := hide hst
        clear hst hzid hzm hyv hy0 hyin3B
        go_wp2
        go_roundw
        case rel => exact ⟨k + 1, q, A', c', ys, by omega, by go_num, rfl, by omega, HS.out, own3, HYS.out, g0', g1', hb3, hsz3⟩
        case measure => simp [intOf]; omega
      have u1 : ((y.id : Int) == 0) = false := by simp only [beq_eq_false_iff_ne, ne_eq]; omega
      have hz0' : z.id ≠ 0 := by rw [hzid]; exact hy0
      have g2' := Later.cell g0'
      have g3' := Later.cell g1'
      have f0 := Later.cell b0
      have f1 := Later.cell b1
      have f2 := Later.cell b2
      have f3 := Later.cell b3
      by_cases hq0 : q = 0
      · have hys0 : ys = [] := List.eq_nil_of_length_eq_zero (by rw [hyq, hq0])
        have x3 : decide (0 < q) = false := decide_eq_false (by omega)
        rw [rowS_new hz0' (by rw [hys0]; simp)] at hst
        have HS := hide hst
        have kq : True := trivial
        have e4 : True := trivial
        have e5 : True := trivial
        clear hst hzid hzm hyv hz0' hys0 hq0 hyq hyin3B
        go_wp2_with fail
        refine wp_region_calm (by kernel_rfl) (by kernel_rfl) ?_
        repeat (go_big_quiet_step (first | (go_at_call 56; with_reducible exact kq _)))
        refine wpQuiet_nil ?_
        rintro _ ⟨x9, rfl⟩
        have hb9 := x9.below
        generalize x9.w = w8 at hb9 ⊢
        clear hw3 j0 j1 j2 j3 w0 w1 w2 w3' w4
        clear g2' g3' f0 f1 f2 f3
        have v10 := v3.later hb9
        have own10 := OwnE.later own3 hb9
        have r0 := cellL g0' hb9
        have r1 := cellL g1' hb9
        have hb10 := hb3.trans (hb9.mono hb3.size)
        have hsz10 : w.heap.size + 1 ≤ w8.heap.size := Nat.le_trans hsz3 hb9.size
        have hlit : Es vwC (w8.alloc (.cells #[.int .u64 (y.id : Int), .slice y.A y.m y.c, .slice y.B y.d y.e, .slice y.C y.f y.g] 26)) (w8.heap.size + 1) (some ⟨w8.heap.size, 0, none⟩) 1 [y] := es_block (heap_alloc_new w8 _) (by simp [ec, vwC]) rfl
        have HB := hide hb10
        have HG := hide hb9
        have HS3 := hide hs3B
        obtain ⟨b0', b1', b2', b3'⟩ := v10.cells
        clear e4 e5 kq v3 own3 g0' g1' hb3 hsz3 b0 b1 b2 b3 hb9 hb10 hs3B
        go_wp2_with (at_builtin; refine wp_append_e _ rfl (.tmp 38) (.tmp 40) 60 rfl 26 i0 _ 80 Try.underlying60 hi hz0 hz1 hz2 rfl vwOk (w.heap.size + 1) q _ ys rfl (own10.alloc _) (w8.heap.size + 1) _ 1 1 [y] rfl hlit (by unfold maxLen; omega) (by omega) w.heap.size w (HB.out.alloc HB.out.size _) (Nat.le_succ _) (by simp; omega) ?_; intro A2 c2 w5 t1 t2 t3 t4; refine Hid.out ?_)
        have t5 : (w8.alloc (.cells #[.int .u64 (y.id : Int), .slice y.A y.m y.c, .slice y.B y.d y.e, .slice y.C y.f y.g] 26)).grownBy w5 (Value.slice A' q c').ownBlock := t4
        have t6 : OwnE 26 vwC 4 w5 (w.heap.size + 1) (.slice A2 (q + 1) c2) (q + 1) (ys ++ [y]) := t1
        have hl9 : Below w8.heap.size w8 (w8.alloc (.cells #[.int .u64 (y.id : Int), .slice y.A y.m y.c, .slice y.B y.d y.e, .slice y.C y.f y.g] 26)) := (Below.refl _ _).alloc (Nat.le_refl _) _
        have own11 := own10.alloc (.cells #[.int .u64 (y.id : Int), .slice y.A y.m y.c, .slice y.B y.d y.e, .slice y.C y.f y.g] 26)
        have hBg : Below B (w8.alloc (.cells #[.int .u64 (y.id : Int), .slice y.A y.m y.c, .slice y.B y.d y.e, .slice y.C y.f y.g] 26)) w5 := (Below.refl B (w8.alloc (.cells #[.int .u64 (y.id : Int), .slice y.A y.m y.c, .slice y.B y.d y.e, .slice y.C y.f y.g] 26))).grown t5 (by have := hl9.size; have := HG.out.size; have := HS3.out; omega) (fun j hj => by have := (own11.lt j hj).1; omega)
        have hB8 : Below B w3 w5 := ((HG.out.mono HS3.out).trans (hl9.mono (by have := HG.out.size; have := HS3.out; omega))).trans hBg
        have t7 : ∀ u ∈ ys ++ [y], VwIn w5 B u := fun u hu => by
          rw [List.mem_append, List.mem_singleton] at hu
          rcases hu with hu | rfl
          · exact (HYS.out u hu).below hB8
          · exact HY.out.1.below hB8
        have hne0 : some w.heap.size ≠ (Value.slice A' q c').ownBlock := fun e => by have := (own11.lt _ e.symm).1; omega
        have q0 : w5.cell? ⟨w.heap.size, 0, none⟩ = some (.int .u16 (p.i : Int)) := t5.cell (cellL r0 hl9) hne0
        have q1 : w5.cell? ⟨w.heap.size, 1, none⟩ = some (.int .u32 (p.k : Int)) := t5.cell (cellL r1 hl9) hne0
        have q2 : w.heap.size + 1 ≤ w5.heap.size := by simp at t3; omega
        have q3 : RowTo zs (k + 1) ((ys ++ [y]).map Vw.v) := by
          rw [List.map_append, List.map_cons, List.map_nil, HY.out.2]
          exact HS.out
        have HR := hide (And.intro q3 (And.intro t6 (And.intro t7 (And.intro q0 (And.intro q1 (And.intro t2 q2))))))
        refine Lib.hid ?_
        clear t1 t2 t3 t4 t5 t6 t7 hl9 own11 hBg hB8 hne0 q0 q1 q2 q3 HY HYS HS HS3 HB HG own10 v10 r0 r1 hlit b0' b1' b2' b3' hsz10
        go_wp2_with fail
        go_roundw
        case rel => exact ⟨k + 1, q + 1, A2, c2, ys ++ [y], by omega, by go_num, rfl, by omega, HR.out⟩
        case measure => simp [intOf]; omega
      · obtain ⟨m, hqm⟩ : ∃ m, q = m + 1 := ⟨q - 1, by omega⟩
        obtain ⟨gq, rfl, hg1, hg2⟩ := OwnE.form own3 (by omega)
        have hyl : ys.length = m + 1 := by rw [hyq, hqm]
        have hmy : m < ys.length := by omega
        have e4 := Later.cell (OwnE.cell_ vwOk own3 hmy (show 1 < 4 by decide) (v := .slice ys[m].A ys[m].m ys[m].c) rfl)
        obtain ⟨hlm, hla⟩ := last_at (acc := ys.map Vw.v) (n := m) (by rw [List.length_map, hyl])
        have hym := HYS.out ys[m] (List.getElem_mem hmy)
        have hlast : (ys.map Vw.v).getLast?.map Vi.mem = some ys[m].l := by rw [hla]; simp [Vw.v]
        obtain ⟨u, hu⟩ : ∃ u, u = ys[m] := ⟨_, rfl⟩
        rw [← hu] at e4 hym hlast
        have kq := fun Z : Later w3 => calm_drawn (samep_any u.A y.A u.m y.m u.c y.c u.l y.l B B Z.w (hym.below (Z.below.mono hs3B)).es (hyin3B.below (Z.below.mono hs3B)).es hym.m_le hyin3B.m_le)
        have e5 : (q : Int) - 1 = (m : Int) := by omega
        have x1 : (0 : Int) ≤ (m : Int) := by omega
        have x2 : (m : Int) < (q : Int) := by omega
        have x3 : decide (0 < q) = true := decide_eq_true (by omega)
        have x4 : (0 : Int) < (q : Int) := by omega
        obtain ⟨t, ht⟩ : ∃ t, t = decide (u.l = y.l) := ⟨_, rfl⟩
        rw [← ht] at kq
        clear hu hla hym hyl hmy hqm hyq hyin3B
        cases t
        · rw [rowS_new hz0' (by rw [hlast, hzm]; intro e; injection e with e; exact of_decide_eq_false ht.symm e)] at hst
          have HS := hide hst
          clear hst hzid hzm hyv hz0' hlast ht
          go_wp2_with fail
          refine wp_region_calm (by kernel_rfl) (by kernel_rfl) ?_
          repeat (go_big_quiet_step (first | (go_at_call 56; with_reducible exact kq _)))
          refine wpQuiet_nil ?_
          rintro _ ⟨x9, rfl⟩
          have hb9 := x9.below
          generalize x9.w = w8 at hb9 ⊢
          clear hw3 j0 j1 j2 j3 w0 w1 w2 w3' w4
          clear g2' g3' f0 f1 f2 f3 x1 x2 x3 x4
          have v10 := v3.later hb9
          have own10 := OwnE.later own3 hb9
          have r0 := cellL g0' hb9
          have r1 := cellL g1' hb9
          have hb10 := hb3.trans (hb9.mono hb3.size)
          have hsz10 : w.heap.size + 1 ≤ w8.heap.size := Nat.le_trans hsz3 hb9.size
          have hlit : Es vwC (w8.alloc (.cells #[.int .u64 (y.id : Int), .slice y.A y.m y.c, .slice y.B y.d y.e, .slice y.C y.f y.g] 26)) (w8.heap.size + 1) (some ⟨w8.heap.size, 0, none⟩) 1 [y] := es_block (heap_alloc_new w8 _) (by simp [ec, vwC]) rfl
          have HB := hide hb10
          have HG := hide hb9
          have HS3 := hide hs3B
          obtain ⟨b0', b1', b2', b3'⟩ := v10.cells
          clear e4 e5 kq v3 own3 g0' g1' hb3 hsz3 b0 b1 b2 b3 hb9 hb10 hs3B
          go_wp2_with (at_builtin; refine wp_append_e _ rfl (.tmp 38) (.tmp 40) 60 rfl 26 i0 _ 80 Try.underlying60 hi hz0 hz1 hz2 rfl vwOk (w.heap.size + 1) q _ ys rfl (own10.alloc _) (w8.heap.size + 1) _ 1 1 [y] rfl hlit (by unfold maxLen; omega) (by omega) w.heap.size w (HB.out.alloc HB.out.size _) (Nat.le_succ _) (by simp; omega) ?_; intro A2 c2 w5 t1 t2 t3 t4; refine Hid.out ?_)
          have t5 : (w8.alloc (.cells #[.int .u64 (y.id : Int), .slice y.A y.m y.c, .slice y.B y.d y.e, .slice y.C y.f y.g] 26)).grownBy w5 (Value.slice (some ⟨gq, 0, none⟩) q c').ownBlock := t4
          have t6 : OwnE 26 vwC 4 w5 (w.heap.size + 1) (.slice A2 (q + 1) c2) (q + 1) (ys ++ [y]) := t1
          have hl9 : Below w8.heap.size w8 (w8.alloc (.cells #[.int .u64 (y.id : Int), .slice y.A y.m y.c, .slice y.B y.d y.e, .slice y.C y.f y.g] 26)) := (Below.refl _ _).alloc (Nat.le_refl _) _
          have own11 := own10.alloc (.cells #[.int .u64 (y.id : Int), .slice y.A y.m y.c, .slice y.B y.d y.e, .slice y.C y.f y.g] 26)
          have hBg : Below B (w8.alloc (.cells #[.int .u64 (y.id : Int), .slice y.A y.m y.c, .slice y.B y.d y.e, .slice y.C y.f y.g] 26)) w5 := (Below.refl B (w8.alloc (.cells #[.int .u64 (y.id : Int), .slice y.A y.m y.c, .slice y.B y.d y.e, .slice y.C y.f y.g] 26))).grown t5 (by have := hl9.size; have := HG.out.size; have := HS3.out; omega) (fun j hj => by have := (own11.lt j hj).1; omega)
          have hB8 : Below B w3 w5 := ((HG.out.mono HS3.out).trans (hl9.mono (by have := HG.out.size; have := HS3.out; omega))).trans hBg
          have t7 : ∀ u ∈ ys ++ [y], VwIn w5 B u := fun u hu => by
            rw [List.mem_append, List.mem_singleton] at hu
            rcases hu with hu | rfl
            · exact (HYS.out u hu).below hB8
            · exact HY.out.1.below hB8
          have hne0 : some w.heap.size ≠ (Value.slice (some ⟨gq, 0, none⟩) q c').ownBlock := fun e => by have := (own11.lt _ e.symm).1; omega
          have q0 : w5.cell? ⟨w.heap.size, 0, none⟩ = some (.int .u16 (p.i : Int)) := t5.cell (cellL r0 hl9) hne0
          have q1 : w5.cell? ⟨w.heap.size, 1, none⟩ = some (.int .u32 (p.k : Int)) := t5.cell (cellL r1 hl9) hne0
          have q2 : w.heap.size + 1 ≤ w5.heap.size := by simp at t3; omega
          have q3 : RowTo zs (k + 1) ((ys ++ [y]).map Vw.v) := by
            rw [List.map_append, List.map_cons, List.map_nil, HY.out.2]
            exact HS.out
          have HR := hide (And.intro q3 (And.intro t6 (And.intro t7 (And.intro q0 (And.intro q1 (And.intro t2 q2))))))
          refine Lib.hid ?_
          clear t1 t2 t3 t4 t5 t6 t7 hl9 own11 hBg hB8 hne0 q0 q1 q2 q3 HY HYS HS HS3 HB HG own10 v10 r0 r1 hlit b0' b1' b2' b3' hsz10
          go_wp2_with fail
          go_roundw
          case rel => exact ⟨k + 1, q + 1, A2, c2, ys ++ [y], by omega, by go_num, rfl, by omega, HR.out⟩
          case measure => simp [intOf]; omega
        · rw [rowS_same hz0' (by rw [hlast, hzm, of_decide_eq_true ht.symm])] at hst
          have HS := hide hst
          clear hst hzid hzm hyv hz0' hlast ht
          go_wp2_with fail
          refine wp_region_calm (by kernel_rfl) (by kernel_rfl) ?_
          repeat (go_big_quiet_step (first | (go_at_call 56; with_reducible exact kq _)))
          refine wpQuiet_nil ?_
          rintro _ ⟨x9, rfl⟩
          have hb9 := x9.below
          generalize x9.w = w8 at hb9 ⊢
          clear hw3 j0 j1 j2 j3 w0 w1 w2 w3' w4
          have hb10 := hb3.trans (hb9.mono hb3.size)
          have own10 := OwnE.later own3 hb9
          have ys10 : ∀ u ∈ ys, VwIn w8 B u := fun u hu => (HYS.out u hu).below (hb9.mono hs3B)
          have r0 := cellL g0' hb9
          have r1 := cellL g1' hb9
          have hsz10 : w.heap.size + 1 ≤ w8.heap.size := Nat.le_trans hsz3 hb9.size
          have HR := hide (And.intro HS.out (And.intro own10 (And.intro ys10 (And.intro r0 (And.intro r1 (And.intro hb10 hsz10))))))
          clear g2' g3' f0 f1 f2 f3 x1 x2 x3 x4 e4 e5 kq v3 own3 g0' g1' hb3 hsz3 b0 b1 b2 b3 hb9 hb10 own10 ys10 r0 r1 hsz10 HS HY HYS hs3B
          go_wp2
          go_roundw
          case rel => exact ⟨k + 1, q, some ⟨gq, 0, none⟩, c', ys, by omega, by go_num, rfl, by omega, HR.out⟩
          case measure => simp [intOf]; omega
    · have hd := hto.done (by rw [HL.out.2]; omega)
      have hlq : ys.length = q := OwnE.len vwOk hown
      have HF := hide (And.intro hd (And.intro hown (And.intro hys (And.intro hb hlq))))
      clear hd hown hys hb hlq hto
      go_wp2
      go_ret
      obtain ⟨hd, hown, hys, hb, hlq⟩ := HF.out
      subst hlq
      exact ⟨A', c', ys, rfl, OwnE.mono hown (Nat.le_succ _), hd, hys, hb⟩
end Go.Proofs.Ythloamhodapmpaa
