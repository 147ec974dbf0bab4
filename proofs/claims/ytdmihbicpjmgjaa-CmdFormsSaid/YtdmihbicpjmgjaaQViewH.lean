/-
  Layer 8: Copy.
-/
import Derived.Test.YtdmihbicpjmgjaaQShareO
import Derived.Test.YtdmihbicpjmgjaaQFlow
import Derived.Test.YtdmihbicpjmgjaaQFlowA
namespace Go.Proofs.Ytdmihbicpjmgjaa
open Go.RowKit Go.Maps
set_option linter.unusedVariables false
set_option linter.unusedSimpArgs false

/-- A row of the call's own, as a value. -/
def OwnV {α : Type} (T : TypeId) (enc : α → List Value) (k base n : Nat) (l : List α) (v : Value) (w : World) : Prop := ∃ A c, v = .slice A n c ∧ OwnE T enc k w base (.slice A n c) n l
theorem ownV_steady {α : Type} {T : TypeId} {enc : α → List Value} {k : Nat} (base n : Nat) (l : List α) : Steady (OwnV T enc k base n l) := fun v w w' ⟨A, c, e, h⟩ hb => ⟨A, c, e, OwnE.later h hb⟩
/-- The first k leaves are the call's own. -/
structure ClTo (w : World) (base : Nat) (q q' : List Lf) (k : Nat) : Prop where
  len : q'.length = q.length
  own : ∀ j (h : j < q'.length) (h2 : j < q.length), j < k → OwnE 25 prC 2 w base (.slice q'[j].A q'[j].m q'[j].c) q'[j].m q'[j].l ∧ q'[j].l = q[j].l ∧ q'[j].m = q[j].m
  rest : ∀ j (h : j < q'.length) (h2 : j < q.length), k ≤ j → q'[j] = q[j]
theorem ClTo.start (w : World) (base : Nat) (q : List Lf) : ClTo w base q q 0 := ⟨rfl, fun j h h2 hj => by omega, fun j h h2 hj => rfl⟩
theorem ClTo.later {w w' : World} {base : Nat} {q q' : List Lf} {k : Nat} (h : ClTo w base q q' k) (hb : Below w.heap.size w w') : ClTo w' base q q' k :=
  ⟨h.len, fun j h1 h2 hj => ⟨OwnE.later (h.own j h1 h2 hj).1 hb, (h.own j h1 h2 hj).2⟩, h.rest⟩
theorem ClTo.step {w w' : World} {base : Nat} {q q' : List Lf} {k : Nat} {y : Lf} (h : ClTo w base q q' k) (hk : k < q.length) (hy : OwnE 25 prC 2 w' base (.slice y.A y.m y.c) y.m y.l) (hl : y.l = q[k].l) (hm : y.m = q[k].m)
    (hw : ∀ (v : Value) (n : Nat) (l : List Pr), OwnE 25 prC 2 w base v n l → OwnE 25 prC 2 w' base v n l) : ClTo w' base q (q'.set k y) (k + 1) := by
  refine ⟨by rw [List.length_set]; exact h.len, fun j h1 h2 hj => ?_, fun j h1 h2 hj => ?_⟩
  · rw [List.length_set] at h1
    by_cases e : j = k
    · subst e
      rw [List.getElem_set_self]
      exact ⟨hy, hl, hm⟩
    · rw [List.getElem_set_ne (fun e' => e e'.symm)]
      have := h.own j h1 h2 (by omega)
      exact ⟨hw _ _ _ this.1, this.2⟩
  · rw [List.length_set] at h1
    rw [List.getElem_set_ne (by omega)]
    exact h.rest j h1 h2 (by omega)
theorem ClTo.done {w : World} {base : Nat} {q q' : List Lf} {k : Nat} (h : ClTo w base q q' k) (hk : q.length ≤ k) : (∀ y ∈ q', OwnE 25 prC 2 w base (.slice y.A y.m y.c) y.m y.l) ∧ q'.map Lf.l = q.map Lf.l ∧ q'.map Lf.m = q.map Lf.m := by
  refine ⟨fun y hy => ?_, ?_, ?_⟩
  · obtain ⟨j, hj, rfl⟩ := List.mem_iff_getElem.1 hy
    exact (h.own j hj (by rw [← h.len]; exact hj) (by rw [h.len] at hj; omega)).1
  · apply List.ext_getElem
    · simp [h.len]
    · intro j h1 h2
      simp only [List.getElem_map]
      rw [List.length_map] at h1 h2
      exact (h.own j h1 h2 (by omega)).2.1
  · apply List.ext_getElem
    · simp [h.len]
    · intro j h1 h2
      simp only [List.getElem_map]
      rw [List.length_map] at h1 h2
      exact (h.own j h1 h2 (by omega)).2.2
/-- What Copy answers. -/
def CopyP (w : World) (x : Vw) (e : Ending) (w' : World) : Prop := ∃ y : Vw, e = .returned (.agg #[.int .u64 (y.id : Int), .slice y.A y.m y.c, .slice y.B y.d y.e, .slice y.C y.f y.g]) ∧ y.v = x.v ∧ y.m = x.m ∧ y.d = x.d ∧ y.f = x.f ∧ y.q.map Lf.m = x.q.map Lf.m ∧ VwOwn w' w.heap.size y ∧ Below w.heap.size w w'
/-- A view's four cells stored. -/
def put4 (w : World) (b : Nat) (y : Vw) : World := (((w.setCell ⟨b, 0, none⟩ (.int .u64 (y.id : Int))).setCell ⟨b, 1, none⟩ (.slice y.A y.m y.c)).setCell ⟨b, 2, none⟩ (.slice y.B y.d y.e)).setCell ⟨b, 3, none⟩ (.slice y.C y.f y.g)
theorem VAt.put {w : World} {b : Nat} {x : Vw} (h : VAt w b x) (y : Vw) : VAt (put4 w b y) b y := by
  have h1 := heap_setCell_same w b 0 _ _ (.int .u64 (y.id : Int)) h
  have h2 := heap_setCell_same _ b 1 _ _ (.slice y.A y.m y.c) h1
  have h3 := heap_setCell_same _ b 2 _ _ (.slice y.B y.d y.e) h2
  exact heap_setCell_same _ b 3 _ _ (.slice y.C y.f y.g) h3
/-- The cells don't tell what the leaves hold. -/
theorem VAt.leaves {w : World} {b id m c d e f g : Nat} {A B C : Option Addr} {l r : List Pr} {q : List Lf} (h : VAt w b ⟨id, A, m, c, l, B, d, e, q, C, f, g, r⟩) (q' : List Lf) : VAt w b ⟨id, A, m, c, l, B, d, e, q', C, f, g, r⟩ := h
def zeroX : Vw := ⟨0, none, 0, 0, [], none, 0, 0, [], none, 0, 0, []⟩
theorem zeroX_own (w : World) (base : Nat) : VwOwn w base zeroX := ⟨OwnE.nil_ _ _, OwnE.nil_ _ _, fun y hy => by simp [zeroX] at hy, OwnE.nil_ _ _⟩
set_option maxRecDepth 100000 in
set_option maxHeartbeats 2000000 in
theorem copy_any (x : Vw) (B : Nat) (w : World) (h : VwIn w B x) (hs : VSmall x) (hB : B ≤ w.heap.size) :
    Calls Try.prog 46 #[.agg #[.int .u64 (x.id : Int), .slice x.A x.m x.c, .slice x.B x.d x.e, .slice x.C x.f x.g]] w (CopyP w x) := by
  obtain ⟨id, A, m, c, l, B', d, e, q, C, f, g, r⟩ := x
  have v0 : VAt ((w.alloc (.cells #[.int .u64 (id : Int), .slice A m c, .slice B' d e, .slice C f g] 31)).alloc (.cells #[.int .u64 0, .slice none 0 0, .slice none 0 0, .slice none 0 0] 31)) w.heap.size ⟨id, A, m, c, l, B', d, e, q, C, f, g, r⟩ := (VAt.mk_ w ⟨id, A, m, c, l, B', d, e, q, C, f, g, r⟩).alloc _
  have z0 : VAt ((w.alloc (.cells #[.int .u64 (id : Int), .slice A m c, .slice B' d e, .slice C f g] 31)).alloc (.cells #[.int .u64 0, .slice none 0 0, .slice none 0 0, .slice none 0 0] 31)) (w.heap.size + 1) zeroX := by
    have := VAt.mk_ (w.alloc (.cells #[.int .u64 (id : Int), .slice A m c, .slice B' d e, .slice C f g] 31)) zeroX
    rw [World.size_alloc] at this
    exact this
  have hbz : Below w.heap.size w ((w.alloc (.cells #[.int .u64 (id : Int), .slice A m c, .slice B' d e, .slice C f g] 31)).alloc (.cells #[.int .u64 0, .slice none 0 0, .slice none 0 0, .slice none 0 0] 31)) := ((Below.refl _ _).alloc (Nat.le_refl _) _).alloc (by simp) _
  have hszz : w.heap.size + 1 + 1 ≤ ((w.alloc (.cells #[.int .u64 (id : Int), .slice A m c, .slice B' d e, .slice C f g] 31)).alloc (.cells #[.int .u64 0, .slice none 0 0, .slice none 0 0, .slice none 0 0] 31)).heap.size := by simp
  obtain ⟨hs1, hs2, hs3, hs4⟩ := hs
  obtain ⟨i1, i2, i3, i4, i5, i6, i7, i8, i9, i10, i11⟩ := h
  dsimp only at *
  have hlq := i5.len
  have c1 := clonep_any A m c l B _ (i2.below (hbz.mono hB)) (Nat.le_trans hB hbz.size) (by omega)
  unfold ClonesP at c1
  have HIN := hide (fun y hy => And.intro (i8 y hy) (hs4 y hy))
  have HQ := hide hlq
  clear i8 hs4 hlq
  go_enter Try.func46, Try.ntmps46
  go_wp2_with fail
  generalize ((w.alloc (.cells #[.int .u64 (id : Int), .slice A m c, .slice B' d e, .slice C f g] 31)).alloc (.cells #[.int .u64 0, .slice none 0 0, .slice none 0 0, .slice none 0 0] 31)) = w1 at *
  refine c1.mono ?_
  rintro e9 w2 ⟨A1, c1', rfl, o1, hb1⟩
  have hb2 := hbz.trans (hb1.mono hbz.size)
  have hsz2 : w.heap.size + 1 + 1 ≤ w2.heap.size := Nat.le_trans hszz hb1.size
  have v2 := v0.later hb1
  have z2 := z0.later hb1
  have o2 := OwnE.mono o1 hszz
  clear hbz hb1 v0 z0 o1 c1 hszz
  obtain ⟨k0, k1, k2, k3⟩ := v2.cells
  have y0 := v2.fz 1
  have y1 := v2.lt
  have y2 := z2.lt
  have v3 := v2.set1 A1 m c1' l
  have z3 := z2.far (a := ⟨w.heap.size, 1, none⟩) (.slice A1 m c1') (by simp)
  have o3 := o2.set_far (a := ⟨w.heap.size, 1, none⟩) (.slice A1 m c1') (by show w.heap.size < w.heap.size + 1 + 1; omega)
  have hb3 : Below w.heap.size w (w2.setCell ⟨w.heap.size, 1, none⟩ (.slice A1 m c1')) := hb2.setCell (by simp) _
  have hsz3 : w.heap.size + 1 + 1 ≤ (w2.setCell ⟨w.heap.size, 1, none⟩ (.slice A1 m c1')).heap.size := by simp; omega
  have j2 : (w2.setCell ⟨w.heap.size, 1, none⟩ (.slice A1 m c1')).cell? ⟨w.heap.size, 2, none⟩ = some (.slice B' d e) := v3.cells.2.2.1
  dsimp only at k0 k1 k2 k3 v3
  have c2 := clonel_any B' d e q B _ (i5.below (hb3.mono hB)) (Nat.le_trans hB hb3.size) (by omega)
  unfold ClonesP at c2
  clear v2 z2 o2 hb2
  go_wp2_with fail
  generalize (w2.setCell ⟨w.heap.size, 1, none⟩ (.slice A1 m c1')) = w3 at *
  refine c2.mono ?_
  rintro e9 w4 ⟨B1, e1, rfl, o4l, hb1⟩
  clear k0 k1 k2 k3 y0 j2 c2
  have hb4 := hb3.trans (hb1.mono hb3.size)
  have hsz4 : w.heap.size + 1 + 1 ≤ w4.heap.size := Nat.le_trans hsz3 hb1.size
  have v4 := v3.later hb1
  have z4 := z3.later hb1
  have o4 := o3.later hb1
  have o5l := OwnE.mono o4l hsz3
  obtain ⟨k0, k1, k2, k3⟩ := v4.cells
  have y0 := v4.fz 2
  have y1 := v4.lt
  have y2 := z4.lt
  have v5 := v4.set2 B1 d e1 q
  have z5 := z4.far (a := ⟨w.heap.size, 2, none⟩) (.slice B1 d e1) (by simp)
  have o5 := o4.set_far (a := ⟨w.heap.size, 2, none⟩) (.slice B1 d e1) (by show w.heap.size < w.heap.size + 1 + 1; omega)
  have o6l := o5l.set_far (a := ⟨w.heap.size, 2, none⟩) (.slice B1 d e1) (by show w.heap.size < w.heap.size + 1 + 1; omega)
  have hb5 : Below w.heap.size w (w4.setCell ⟨w.heap.size, 2, none⟩ (.slice B1 d e1)) := hb4.setCell (by simp) _
  have hsz5 : w.heap.size + 1 + 1 ≤ (w4.setCell ⟨w.heap.size, 2, none⟩ (.slice B1 d e1)).heap.size := by simp; omega
  have cl0 := ClTo.start (w4.setCell ⟨w.heap.size, 2, none⟩ (.slice B1 d e1)) (w.heap.size + 1 + 1) q
  have j2 : (w4.setCell ⟨w.heap.size, 2, none⟩ (.slice B1 d e1)).cell? ⟨w.heap.size, 2, none⟩ = some (.slice B1 d e1) := v5.cells.2.2.1
  dsimp only at k0 k1 k2 k3 v5
  clear v4 z4 o4 o5l hb4 v3 z3 o3 hb3 hsz3 hb1 o4l
  go_wp2
  generalize (w4.setCell ⟨w.heap.size, 2, none⟩ (.slice B1 d e1)) = w5 at *
  clear k0 k1 k2 k3 y0 j2 hsz2 hsz4 y1 y2
  go_loopw [16] (fun i wr => ∃ (k : Nat) (q' : List Lf), k ≤ d ∧ i = .int .i64 k ∧ VAt wr w.heap.size ⟨id, A1, m, c1', l, B1, d, e1, q', C, f, g, r⟩ ∧ VAt wr (w.heap.size + 1) zeroX ∧ OwnE 25 prC 2 wr (w.heap.size + 1 + 1) (.slice A1 m c1') m l ∧ OwnE 28 lfC 1 wr (w.heap.size + 1 + 1) (.slice B1 d e1) d q' ∧ ClTo wr (w.heap.size + 1 + 1) q q' k ∧ Below w.heap.size w wr ∧ w.heap.size + 1 + 1 ≤ wr.heap.size) (fun i _ => d - (intOf i).toNat)
  case atStart => exact ⟨0, q, Nat.zero_le _, rfl, v5, z5, o5, o6l, cl0, hb5, hsz5⟩
  case round =>
    clear v5 z5 o5 o6l cl0 hb5 hsz5
    obtain ⟨k, q', hk, rfl, vr, zr, op, ol, hcl, hbr, hszr⟩ := hrel
    by_cases hlt : k < d
    · obtain ⟨gb, rfl, hg1, hg2⟩ := OwnE.form ol (by omega)
      have hkq : k < q.length := by rw [HQ.out]; exact hlt
      have hkq' : k < q'.length := by rw [hcl.len]; exact hkq
      have hin := HIN.out q[k] (List.getElem_mem hkq)
      have hrest := hcl.rest k hkq' hkq (Nat.le_refl _)
      have hstep := fun w' y a b cc dd => @ClTo.step wr w' (w.heap.size + 1 + 1) q q' k y hcl hkq a b cc dd
      have b0 : wr.cell? ⟨gb, k, none⟩ = some (.slice q'[k].A q'[k].m q'[k].c) := by
        have := OwnE.cell_ lfOk ol hkq' (show 0 < 1 by decide) (v := .slice q'[k].A q'[k].m q'[k].c) rfl
        rwa [show k * 1 + 0 = k from by omega] at this
      rw [hrest] at b0
      obtain ⟨zz, hzz⟩ : ∃ z, z = q[k] := ⟨_, rfl⟩
      rw [← hzz] at b0 hin hstep
      have HZ := hide (And.intro hzz hstep)
      obtain ⟨za, zm, zc, zl⟩ := zz
      obtain ⟨⟨hze, hzc, hzr⟩, hz40⟩ := hin
      dsimp only at b0 hze hzc hzr hz40
      have k1 := fun W (hb : Below wr.heap.size wr W) => (vr.later hb).cells.2.2.1
      dsimp only at k1
      have n1 := fun W (hb : Below wr.heap.size wr W) => clonep_any za zm zc zl B W (hze.below ((hbr.trans (hb.mono hbr.size)).mono hB)) (Nat.le_trans hB (Nat.le_trans hbr.size hb.size)) (by omega)
      unfold ClonesP at n1
      have x1 : (0 : Int) ≤ (k : Int) := by omega
      have x2 : (k : Int) < (d : Int) := by omega
      clear hzz hstep hrest
      go_wp2_with fail
      refine wp_region_flow_tail 6 (by kernel_rfl) (by kernel_rfl) (by kernel_rfl) ?_
      simp only [List.take_succ_cons, List.take_zero, List.drop_succ_cons, List.drop_zero]
      refine flow_val rfl ?_
      apply Exists.intro
      apply And.intro
      · intro ρ w8 hr hf
        have r1 := hr.const
        have r2 := hr.func
        try simp [Oper.looksAt, Op.operands, Call.operands, tput, frameW, Act.eval] at hf
        go_simp
        try rfl
      refine flow_pure (.slice (some ⟨gb, 0, none⟩) d e1) rfl ?_ ?_
      · intro ρ w8 hr hw hf
        have h8 := (k1 w8 hw)
        try simp [Oper.looksAt, Op.operands, Call.operands, tput, frameW, Act.eval] at hf
        go_simp
      refine flow_val rfl ?_
      apply Exists.intro
      apply And.intro
      · intro ρ w8 hr hf
        have r1 := hr.const
        have r2 := hr.func
        try simp [Oper.looksAt, Op.operands, Call.operands, tput, frameW, Act.eval] at hf
        go_simp
        try rfl
      refine flow_val rfl ?_
      apply Exists.intro
      apply And.intro
      · intro ρ w8 hr hf
        have r1 := hr.const
        have r2 := hr.func
        try simp [Oper.looksAt, Op.operands, Call.operands, tput, frameW, Act.eval] at hf
        go_simp
        try rfl
      refine flow_step (OwnV 25 prC 2 (w.heap.size + 1 + 1) zm zl) rfl (ownV_steady _ _ _) ?_ ?_
      · intro ρ w8 hr hw hf
        have r2 := hr.func
        simp [Oper.looksAt, Op.operands, Call.operands, tput, frameW, Act.eval] at hf
        have CN := hide (n1 w8 hw)
        go_simp
        refine ⟨Below.refl _ _, (unhide CN).mono ?_⟩
        rintro e w7 ⟨A7, c7, rfl, ho7, hb7⟩
        exact ⟨_, rfl, hb7, A7, c7, rfl, OwnE.mono ho7 (Nat.le_trans hszr hw.size)⟩
      refine flow_val rfl ?_
      apply Exists.intro
      apply And.intro
      · intro ρ w8 hr hf
        have r1 := hr.const
        have r2 := hr.func
        try simp [Oper.looksAt, Op.operands, Call.operands, tput, frameW, Act.eval] at hf
        go_simp
        try rfl
      refine flow_nil ?_
      intro f9 w9 hb9 hf
      have g25 := hf 25
      simp [tput, frameW, Act.eval] at g25
      obtain ⟨A7, c7, g25, ho7⟩ := g25
      have g0 := hf 0; simp [tput, frameW, Act.eval] at g0
      have g1 := hf 1; simp [tput, frameW, Act.eval] at g1
      have g2 := hf 2; simp [tput, frameW, Act.eval] at g2
      have g5 := hf 5; simp [tput, frameW, Act.eval] at g5
      have g6 := hf 6; simp [tput, frameW, Act.eval] at g6
      have g7 := hf 7; simp [tput, frameW, Act.eval] at g7
      have g8 := hf 8; simp [tput, frameW, Act.eval] at g8
      have g9 := hf 9; simp [tput, frameW, Act.eval] at g9
      have g10 := hf 10; simp [tput, frameW, Act.eval] at g10
      have g11 := hf 11; simp [tput, frameW, Act.eval] at g11
      have g12 := hf 12; simp [tput, frameW, Act.eval] at g12
      have g13 := hf 13; simp [tput, frameW, Act.eval] at g13
      have g14 := hf 14; simp [tput, frameW, Act.eval] at g14
      have g15 := hf 15; simp [tput, frameW, Act.eval] at g15
      have g16 := hf 16; simp [tput, frameW, Act.eval] at g16
      have g28 := hf 28; simp [tput, frameW, Act.eval] at g28
      have g29 := hf 29; simp [tput, frameW, Act.eval] at g29
      have g30 := hf 30; simp [tput, frameW, Act.eval] at g30
      have g31 := hf 31; simp [tput, frameW, Act.eval] at g31
      have g32 := hf 32; simp [tput, frameW, Act.eval] at g32
      have g26 := hf 26; simp [tput, frameW, Act.eval] at g26
      rw [show frameOf f9 _ _ = ⟨#[f9 0, f9 1, f9 2, f9 3, f9 4, f9 5, f9 6, f9 7, f9 8, f9 9, f9 10, f9 11, f9 12, f9 13, f9 14, f9 15, f9 16, f9 17, f9 18, f9 19, f9 20, f9 21, f9 22, f9 23, f9 24, f9 25, f9 26, f9 27, f9 28, f9 29, f9 30, f9 31, f9 32], []⟩ from rfl, g25, g0, g1, g2, g5, g6, g7, g8, g9, g10, g11, g12, g13, g14, g15, g16, g28, g29, g30, g31, g32, g26]
      clear hf n1 k1
      obtain ⟨hzz, hstep⟩ := HZ.out
      have vr9 := vr.later hb9
      have zr9 := zr.later hb9
      have op9 := OwnE.later op hb9
      have ol9 := OwnE.later ol hb9
      have e0 : w9.cell? ⟨gb, k, none⟩ = some (.slice za zm zc) := cellL b0 hb9
      have e1' := OwnE.fz_ ol9 k
      have s1 := OwnE.stored lfOk ol9 (j := k) (i := 0) (y := ⟨A7, zm, c7, zl⟩) (u := .slice A7 zm c7) hkq' (by decide) (by simp [lfC])
      rw [show k * 1 + 0 = k from by omega] at s1
      have s2 := op9.set_other (a := ⟨gb, k, none⟩) (.slice A7 zm c7) (OwnE.unlike ol9 op9 (by decide))
      have s3 := hstep _ ⟨A7, zm, c7, zl⟩ (ho7.set_other (a := ⟨gb, k, none⟩) (.slice A7 zm c7) (OwnE.unlike ol9 ho7 (by decide))) rfl rfl (fun v n l ho => (OwnE.later ho hb9).set_other _ (OwnE.unlike ol9 (OwnE.later ho hb9) (by decide)))
      have s4 := vr9.far (a := ⟨gb, k, none⟩) (.slice A7 zm c7) (by show w.heap.size ≠ gb; omega)
      have s5 := zr9.far (a := ⟨gb, k, none⟩) (.slice A7 zm c7) (by show w.heap.size + 1 ≠ gb; omega)
      have s6 : Below w.heap.size w (w9.setCell ⟨gb, k, none⟩ (.slice A7 zm c7)) := (hbr.trans (hb9.mono hbr.size)).setCell (by show w.heap.size ≤ gb; omega) _
      have s7 : w.heap.size + 1 + 1 ≤ (w9.setCell ⟨gb, k, none⟩ (.slice A7 zm c7)).heap.size := by have := hb9.size; simp; omega
      have HS := hide (And.intro s4 (And.intro s5 (And.intro s2 (And.intro s1 (And.intro s3 (And.intro s6 s7))))))
      clear hstep hzz vr9 zr9 op9 ol9 s1 s2 s3 s4 s5 s6 s7 vr zr op ol hcl hbr ho7 HZ b0
      go_wp2
      go_roundw
      case rel => exact ⟨k + 1, _, by omega, by go_num, VAt.leaves HS.out.1 _, HS.out.2.1, HS.out.2.2.1, HS.out.2.2.2.1, HS.out.2.2.2.2.1, HS.out.2.2.2.2.2.1, HS.out.2.2.2.2.2.2⟩
      case measure => simp [intOf]; omega
    · obtain rfl : k = d := by omega
      have hd := hcl.done (by rw [HQ.out]; exact Nat.le_refl _)
      obtain ⟨k0, k1, k2, k3⟩ := vr.cells
      dsimp only at k0 k1 k2 k3
      have c3 := clonep_any C f g r B wr (i9.below (hbr.mono hB)) (Nat.le_trans hB hbr.size) (by omega)
      unfold ClonesP at c3
      have HD := hide hd
      clear hd hcl
      go_wp2_with fail
      refine c3.mono ?_
      rintro e9 w6 ⟨C1, g1, rfl, o7, hb1⟩
      have hb6 := hbr.trans (hb1.mono hbr.size)
      have hsz6 : w.heap.size + 1 + 1 ≤ w6.heap.size := Nat.le_trans hszr hb1.size
      have v6 := vr.later hb1
      have z6 := zr.later hb1
      have op6 := OwnE.later op hb1
      have ol6 := OwnE.later ol hb1
      have oe6 : ∀ y ∈ q', OwnE 25 prC 2 w6 (w.heap.size + 1 + 1) (.slice y.A y.m y.c) y.m y.l := fun y hy => OwnE.later (HD.out.1 y hy) hb1
      have od6 := OwnE.mono o7 hszr
      clear k0 k1 k2 k3 vr zr op ol o7 c3 hb1 hbr hszr
      obtain ⟨k0, k1, k2, k3⟩ := v6.cells
      obtain ⟨j0, j1, j2, j3⟩ := z6.cells
      dsimp only at k0 k1 k2 k3
      simp only [zeroX] at j0 j1 j2 j3
      have y0 := v6.fz 3
      have y1 := v6.lt
      have y2 := z6.lt
      have x0 := z6.fz 0
      have x1 := z6.fz 1
      have x2 := z6.fz 2
      have x3 := z6.fz 3
      have v7 := v6.set3 C1 f g1 r
      have z7 := z6.far (a := ⟨w.heap.size, 3, none⟩) (.slice C1 f g1) (by simp)
      have t7 := z7.put ⟨id, A1, m, c1', l, B1, k, e1, q', C1, f, g1, r⟩
      have hb7 : Below w.heap.size w (w6.setCell ⟨w.heap.size, 3, none⟩ (.slice C1 f g1)) := hb6.setCell (by simp) _
      have far1 := fun {α : Type} {enc : α → List Value} {kk : Nat} {T : TypeId} {W : World} {n : Nat} {v : Value} {l : List α} (h : OwnE T enc kk W (w.heap.size + 1 + 1) v n l) (o : Nat) (u : Value) => h.set_far (a := ⟨w.heap.size, o, none⟩) u (by show w.heap.size < w.heap.size + 1 + 1; omega)
      have far2 := fun {α : Type} {enc : α → List Value} {kk : Nat} {T : TypeId} {W : World} {n : Nat} {v : Value} {l : List α} (h : OwnE T enc kk W (w.heap.size + 1 + 1) v n l) (o : Nat) (u : Value) => h.set_far (a := ⟨w.heap.size + 1, o, none⟩) u (by show w.heap.size + 1 < w.heap.size + 1 + 1; omega)
      have hown : VwOwn (put4 (w6.setCell ⟨w.heap.size, 3, none⟩ (.slice C1 f g1)) (w.heap.size + 1) ⟨id, A1, m, c1', l, B1, k, e1, q', C1, f, g1, r⟩) w.heap.size ⟨id, A1, m, c1', l, B1, k, e1, q', C1, f, g1, r⟩ :=
        VwOwn.mono (base := w.heap.size + 1 + 1) ⟨far2 (far2 (far2 (far2 (far1 op6 _ _) _ _) _ _) _ _) _ _, far2 (far2 (far2 (far2 (far1 ol6 _ _) _ _) _ _) _ _) _ _, fun y hy => far2 (far2 (far2 (far2 (far1 (oe6 y hy) _ _) _ _) _ _) _ _) _ _, far2 (far2 (far2 (far2 (far1 od6 _ _) _ _) _ _) _ _) _ _⟩ (by omega)
      have hb8 : Below w.heap.size w (put4 (w6.setCell ⟨w.heap.size, 3, none⟩ (.slice C1 f g1)) (w.heap.size + 1) ⟨id, A1, m, c1', l, B1, k, e1, q', C1, f, g1, r⟩) := (((hb7.setCell (by simp) _).setCell (by simp) _).setCell (by simp) _).setCell (by simp) _
      have HF := hide (And.intro t7 (And.intro hown (And.intro hb8 (And.intro HD.out.2.1 HD.out.2.2))))
      clear v6 z6 op6 ol6 oe6 od6 v7 z7 t7 hb7 hb6 far1 far2 hown hb8 HD
      go_wp2
      obtain ⟨t7, hown, hb8, h1, h2⟩ := HF.out
      obtain ⟨t0, t1, t2, t3⟩ := t7.cells
      clear t7 HF k0 k1 k2 k3 j0 j1 j2 j3 y0 y1 y2 x0 x1 x2 x3
      simp only [put4] at t0 t1 t2 t3 hown hb8
      refine bodyPost_ret (v := .agg #[.int .u64 (id : Int), .slice A1 m c1', .slice B1 k e1, .slice C1 f g1]) (by simp [results, Try.results46, go_sem, t0, t1, t2, t3]) rfl ⟨⟨id, A1, m, c1', l, B1, k, e1, q', C1, f, g1, r⟩, rfl, ?_, rfl, rfl, rfl, h2, hown, hb8⟩
      simp only [Vw.v, h1]
end Go.Proofs.Ytdmihbicpjmgjaa
