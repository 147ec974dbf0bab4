/-
  Layer 9: commands in memory, and as they come in.
-/
import Derived.Test.YtdmihbicpjmgjaaQCmdM
import Derived.Test.YtdmihbicpjmgjaaQOpenV
import Derived.Test.YtdmihbicpjmgjaaQOpenF
import Derived.Test.YtdmihbicpjmgjaaQView2
import Derived.Test.YtdmihbicpjmgjaaQViewA
namespace Go.Proofs.Ytdmihbicpjmgjaa
open Go.RowKit Go.ChangeShapes Go.WideShapes Go.ChangeAt
set_option linter.unusedVariables false
set_option linter.unusedSimpArgs false

/-- A command with its slices. -/
structure Cx where
  kind : Int
  p : Pr
  num : Nat
  vn : Nat
  A : Option Addr
  n : Nat
  c : Nat
  l : List UInt8
  x : Vw
/-- .. in plain words. -/
def Cx.m (y : Cx) : Cm := ⟨y.kind, y.p, y.num, y.vn, y.l, y.x.v⟩
structure CxIn (w : World) (B0 : Nat) (y : Cx) : Prop where
  k0 : -9223372036854775808 ≤ y.kind
  k1 : y.kind ≤ 9223372036854775807
  hn : y.num < 18446744073709551616
  hv : y.vn < 18446744073709551616
  bs : Bs w B0 y.A y.n y.l
  nc : y.n ≤ y.c
  room : y.c ≤ maxLen
  vw : VwIn w B0 y.x
theorem CxIn.below {w w' : World} {B0 : Nat} {y : Cx} (h : CxIn w B0 y) (hb : Below B0 w w') : CxIn w' B0 y := ⟨h.k0, h.k1, h.hn, h.hv, h.bs.below hb, h.nc, h.room, h.vw.below hb⟩
theorem CxIn.more {w : World} {B0 B1 : Nat} {y : Cx} (h : CxIn w B0 y) (hb : B0 ≤ B1) : CxIn w B1 y := ⟨h.k0, h.k1, h.hn, h.hv, h.bs.more hb, h.nc, h.room, h.vw.more hb⟩
theorem CxIn.alloc {w : World} {B0 : Nat} {y : Cx} (h : CxIn w B0 y) (hB : B0 ≤ w.heap.size) (o : Obj) : CxIn (w.alloc o) B0 y := h.below ((Below.refl _ _).alloc hB o)
/-- The block b is just this command. -/
def CAt (w : World) (b : Nat) (y : Cx) : Prop := w.heap[b]? = some (.cells #[.int .i64 y.kind, .int .u16 (y.p.i : Int), .int .u32 (y.p.k : Int), .int .u64 (y.num : Int), .int .u64 (y.vn : Int), .slice y.A y.n y.c, .int .u64 (y.x.id : Int), .slice y.x.A y.x.m y.x.c, .slice y.x.B y.x.d y.x.e, .slice y.x.C y.x.f y.x.g] 33)
theorem CAt.cells {w : World} {b : Nat} {y : Cx} (h : CAt w b y) : w.cell? ⟨b, 0, none⟩ = some (.int .i64 y.kind) ∧ w.cell? ⟨b, 1, none⟩ = some (.int .u16 (y.p.i : Int)) ∧ w.cell? ⟨b, 2, none⟩ = some (.int .u32 (y.p.k : Int)) ∧
    w.cell? ⟨b, 3, none⟩ = some (.int .u64 (y.num : Int)) ∧ w.cell? ⟨b, 4, none⟩ = some (.int .u64 (y.vn : Int)) ∧ w.cell? ⟨b, 5, none⟩ = some (.slice y.A y.n y.c) ∧
    w.cell? ⟨b, 6, none⟩ = some (.int .u64 (y.x.id : Int)) ∧ w.cell? ⟨b, 7, none⟩ = some (.slice y.x.A y.x.m y.x.c) ∧ w.cell? ⟨b, 8, none⟩ = some (.slice y.x.B y.x.d y.x.e) ∧ w.cell? ⟨b, 9, none⟩ = some (.slice y.x.C y.x.f y.x.g) := by
  have hf : ∀ z, w.cell? ⟨b, z, none⟩ = (#[.int .i64 y.kind, .int .u16 (y.p.i : Int), .int .u32 (y.p.k : Int), .int .u64 (y.num : Int), .int .u64 (y.vn : Int), .slice y.A y.n y.c, .int .u64 (y.x.id : Int), .slice y.x.A y.x.m y.x.c, .slice y.x.B y.x.d y.x.e, .slice y.x.C y.x.f y.x.g] : Array Value)[z]? := by
    intro z
    unfold CAt at h
    simp [World.cell?, h]
  exact ⟨hf 0, hf 1, hf 2, hf 3, hf 4, hf 5, hf 6, hf 7, hf 8, hf 9⟩
theorem CAt.lt {w : World} {b : Nat} {y : Cx} (h : CAt w b y) : b < w.heap.size := lt_of_heap h
theorem CAt.mk_ (w : World) (y : Cx) : CAt (w.alloc (.cells #[.int .i64 y.kind, .int .u16 (y.p.i : Int), .int .u32 (y.p.k : Int), .int .u64 (y.num : Int), .int .u64 (y.vn : Int), .slice y.A y.n y.c, .int .u64 (y.x.id : Int), .slice y.x.A y.x.m y.x.c, .slice y.x.B y.x.d y.x.e, .slice y.x.C y.x.f y.x.g] 33)) w.heap.size y := heap_alloc_new w _
theorem CAt.alloc {w : World} {b : Nat} {y : Cx} (h : CAt w b y) (o : Obj) : CAt (w.alloc o) b y := (Below.heap_alloc w o b h.lt).trans h
theorem CAt.below {w w' : World} {b B : Nat} {y : Cx} (h : CAt w b y) (hb : Below B w w') (hg : b < B) : CAt w' b y := (hb.block b hg).trans h
theorem CAt.later {w w' : World} {b : Nat} {y : Cx} (h : CAt w b y) (hb : Below w.heap.size w w') : CAt w' b y := h.below hb h.lt
theorem CAt.fz {w : World} {b : Nat} {y : Cx} (h : CAt w b y) (j : Nat) : w.frozen? ⟨b, j, none⟩ = false := frozen_of_row w b j _ _ h
theorem CAt.turn {w w' : World} {g b : Nat} {mg : Option Nat} {y : Cx} (h : CAt w g y) (ht : Turn w w' b mg) (h1 : g ≠ b) (h2 : some g ≠ mg) : CAt w' g y := (ht.block g h.lt h1 h2).trans h
theorem CAt.far {w : World} {b : Nat} {y : Cx} (h : CAt w b y) {a : Addr} (u : Value) (ha : b ≠ a.block) : CAt (w.setCell a u) b y := (heap_setCell_other w a b u ha).trans h
/-- At most so much is looked at. -/
structure CSmall (y : Cx) : Prop where
  n : y.n ≤ 400
  v : VSmall y.x

theorem cells_cmd : Try.prog.cellsOf 33 = 10 := by kernel_rfl
section
variable {H : Type} {enc : TypeId × Value → H} {w : World} {base : Nat}
theorem trod_struct6 {spare : Nat → Bool} {held : Bool} {P : Program} {t : TypeId} {f0 f1 f2 f3 f4 f5 : Field} {fuel : Nat} {cs : List Value} {x : DataW H × List MemPlace} (ht : P.underlying t = some (.struct #[f0, f1, f2, f3, f4, f5])) (h : DataW.trod enc P w base spare held fuel t cs = some x) :
    ∃ y0 y1 y2 y3 y4 y5 n, cs.length = P.cellsOf t ∧ DataW.trod enc P w base spare held n f0.type ((cs.drop f0.offset).take (P.cellsOf f0.type)) = some y0 ∧
      DataW.trod enc P w base spare held n f1.type ((cs.drop f1.offset).take (P.cellsOf f1.type)) = some y1 ∧ DataW.trod enc P w base spare held n f2.type ((cs.drop f2.offset).take (P.cellsOf f2.type)) = some y2 ∧
      DataW.trod enc P w base spare held n f3.type ((cs.drop f3.offset).take (P.cellsOf f3.type)) = some y3 ∧ DataW.trod enc P w base spare held n f4.type ((cs.drop f4.offset).take (P.cellsOf f4.type)) = some y4 ∧
      DataW.trod enc P w base spare held n f5.type ((cs.drop f5.offset).take (P.cellsOf f5.type)) = some y5 := by
  obtain ⟨xs, n, _, rfl, hl, hlen, hf⟩ := DataW.trod_struct ht h
  match xs, hlen with
  | [y0, y1, y2, y3, y4, y5], _ => exact ⟨y0, y1, y2, y3, y4, y5, n, hl, by simpa using hf 0 f0 rfl, by simpa using hf 1 f1 rfl, by simpa using hf 2 f2 rfl, by simpa using hf 3 f3 rfl, by simpa using hf 4 f4 rfl, by simpa using hf 5 f5 rfl⟩
set_option maxRecDepth 100000 in
theorem open_cmd {r : Reach} {b0 : Nat} {v : Value} {d : DataW H} {p : List MemPlace} (hv : Value.okWide Try.prog w r b0 33 v) (h : DataW.Trod enc Try.prog w base (fun _ => true) true 33 v d p) :
    ∃ y : Cx, v = .agg #[.int .i64 y.kind, .int .u16 (y.p.i : Int), .int .u32 (y.p.k : Int), .int .u64 (y.num : Int), .int .u64 (y.vn : Int), .slice y.A y.n y.c, .int .u64 (y.x.id : Int), .slice y.x.A y.x.m y.x.c, .slice y.x.B y.x.d y.x.e, .slice y.x.C y.x.f y.x.g] ∧ CxIn w w.heap.size y := by
  obtain ⟨cs, rfl, _⟩ := okWide_struct Try.underlying33 hv
  obtain ⟨fuel, hf⟩ := h
  obtain ⟨y0, y1, y2, y3, y4, y5, n, hl, h0, h1, h2, h3, h4, h5⟩ := trod_struct6 Try.underlying33 hf
  rw [cells_cmd] at hl
  generalize hcs : (Value.agg cs).cells.toList = L at hl h0 h1 h2 h3 h4 h5
  match L, hl with
  | [a0, a1, a2, a3, a4, a5, a6, a7, a8, a9], _ =>
    simp only [cells_int, cells_pid, cells_u64, cells_bytes, cells_view, List.drop_zero, List.drop_succ_cons, List.take_succ_cons, List.take_zero] at h0 h1 h2 h3 h4 h5
    obtain ⟨k, e0, _, hw⟩ := DataW.trod_int Try.underlying3 h0
    have hk := wf_i64 hw
    obtain ⟨i, c, e1, hi, hc⟩ := pid_cells h1
    obtain ⟨s, e2, hs⟩ := u64_cell h2
    obtain ⟨t, e3, ht⟩ := u64_cell h3
    obtain ⟨A, m, q, l, e4, hB, hnq, hq⟩ := bytes_cell h4
    obtain ⟨z, e5, hz⟩ := view_cells h5
    simp only [vwC, List.cons.injEq, and_true] at e0 e1 e2 e3 e5
    obtain ⟨rfl, rfl⟩ := e1
    obtain ⟨rfl, rfl, rfl, rfl⟩ := e5
    subst e0 e2 e3 e4
    refine ⟨⟨k, ⟨i, c, hi, hc⟩, s, t, A, m, q, l, z⟩, ?_, ⟨hk.1, hk.2, hs, ht, hB, hnq, hq, hz⟩⟩
    obtain ⟨l'⟩ := cs
    simp [Value.cells] at hcs
    rw [hcs]
end
end Go.Proofs.Ytdmihbicpjmgjaa
namespace Go.Proofs.Ytdmihbicpjmgjaa
open Go.RowKit Go.Maps
set_option linter.unusedVariables false
set_option linter.unusedSimpArgs false

set_option maxRecDepth 100000 in
theorem sequal_any (A A' : Option Addr) (n m c c' : Nat) (l l' : List Pr) (B B' : Nat) (w : World) (hA : Es prC w B A n l) (hA' : Es prC w B' A' m l') (hn : n ≤ maxLen) (hm : m ≤ maxLen) :
    Calls Try.prog 80 #[.slice A n c, .slice A' m c'] w fun e w' => e = .returned (.bool (decide (l = l'))) ∧ Drawn w w' := by
  unfold maxLen at hn hm
  have hlen := hA.len
  have hlen' := hA'.len
  obtain ⟨r, hr⟩ : ∃ r, r = decide (l = l') := ⟨_, rfl⟩
  rw [← hr]
  by_cases hnm : n = m
  · subst hnm
    have HL := hide hlen
    have HL' := hide hlen'
    have HR := hide hr
    clear hlen hlen' hr
    have h0 : SameTo l l' 0 := by simp [SameTo]
    go_enter Try.func80, Try.ntmps80
    go_wp2
    go_loopw [13] (fun i wr => ∃ j : Nat, j ≤ n ∧ i = .int .i64 j ∧ SameTo l l' j ∧ Drawn w wr) (fun i _ => n - (intOf i).toNat)
    case atStart => exact ⟨0, Nat.zero_le _, rfl, h0, Drawn.refl _⟩
    case round =>
      obtain ⟨j, hj, rfl, hsame, hd⟩ := hrel
      obtain ⟨n0, rfl⟩ := hd
      by_cases hlt : j < n
      · obtain ⟨ad, hl, rfl, hbl, hc⟩ := hA.at_ prOk hlt
        obtain ⟨ad', hl', rfl, hbl', hc'⟩ := hA'.at_ prOk hlt
        obtain ⟨q, hq⟩ : ∃ q, q = l[j] := ⟨_, rfl⟩
        obtain ⟨p, hp⟩ : ∃ p, p = l'[j] := ⟨_, rfl⟩
        rw [← hq] at hc
        rw [← hp] at hc'
        obtain ⟨c0, c1⟩ := pr_at hc
        obtain ⟨d0, d1⟩ := pr_at hc'
        have HQ := hide hq
        have HP := hide hp
        clear hc hq hc' hp
        have z1 : (0 : Int) ≤ (j : Int) := by omega
        have z2 : (j : Int) < (n : Int) := by omega
        by_cases hqi : q.i = p.i
        · by_cases hqk : q.k = p.k
          · have hst := hsame.step hl hl' (by rw [← HQ.out, ← HP.out]; exact Pr.ext hqi hqk)
            rw [hqi] at c0
            rw [hqk] at c1
            clear hqi hqk
            go_wp2_with fail
            go_quiet (fail)
            go_wp2
            go_roundw
            case rel => exact ⟨j + 1, by omega, by go_num, hst, (by first | exact drawn_one _ _ | exact drawn_two _ _ _)⟩
            case measure => simp [intOf]; omega
          · have hf : decide (l = l') = false := decide_eq_false (fun e => hqk (by rw [HQ.out, HP.out]; subst e; rfl))
            have HI := hide (HR.out.trans hf)
            have q3 : ¬ ((q.k : Int) = (p.k : Int)) := by omega
            rw [hqi] at c0
            clear hqi hqk hf
            go_wp2_with fail
            go_quiet (fail)
            go_wp2
            go_ret
            exact ⟨ret_bool HI.out.symm, (by first | exact drawn_one _ _ | exact drawn_two _ _ _)⟩
        · have hf : decide (l = l') = false := decide_eq_false (fun e => hqi (by rw [HQ.out, HP.out]; subst e; rfl))
          have HI := hide (HR.out.trans hf)
          have q3 : ¬ ((q.i : Int) = (p.i : Int)) := by omega
          clear hqi hf
          go_wp2_with fail
          go_quiet (fail)
          go_wp2
          go_ret
          exact ⟨ret_bool HI.out.symm, (by first | exact drawn_one _ _ | exact drawn_two _ _ _)⟩
      · have hf : decide (l = l') = true := decide_eq_true (hsame.done (by rw [HL.out]; omega) (by rw [HL'.out]; omega))
        have HI := hide (HR.out.trans hf)
        clear hf
        go_wp2
        go_ret
        exact ⟨ret_bool HI.out.symm, drawn_one _ _⟩
  · have hf : decide (l = l') = false := decide_eq_false (fun e => hnm (by rw [← hlen, ← hlen', e]))
    have HI := hide (hr.trans hf)
    have hne : ((n : Int) != (m : Int)) = true := by simp; omega
    clear hf hr hlen hlen'
    go_enter Try.func80, Try.ntmps80
    go_wp2
    go_ret
    exact ⟨ret_bool HI.out.symm, Drawn.refl _⟩
/-- Leaves alike as far as j. -/
def SamL (l m : List (List Pr)) (j : Nat) : Prop := l.take j = m.take j
theorem SamL.start (l m : List (List Pr)) : SamL l m 0 := by simp [SamL]
theorem SamL.step {l m : List (List Pr)} {j : Nat} (h : SamL l m j) (h1 : j < l.length) (h2 : j < m.length) (he : l[j] = m[j]) : SamL l m (j + 1) := by
  unfold SamL at *
  rw [List.take_succ_eq_append_getElem h1, List.take_succ_eq_append_getElem h2, h, he]
theorem SamL.done {l m : List (List Pr)} {j : Nat} (h : SamL l m j) (h1 : l.length ≤ j) (h2 : m.length ≤ j) : l = m := by
  unfold SamL at h
  rwa [List.take_of_length_le h1, List.take_of_length_le h2] at h
set_option maxRecDepth 100000 in
theorem eqfunc_any (A A' : Option Addr) (n m c c' : Nat) (q q' : List Lf) (B B' : Nat) (w : World) (hA : Es lfC w B A n q) (hA' : Es lfC w B' A' m q') (hn : n ≤ maxLen) (hm : m ≤ maxLen) (h1 : ∀ y ∈ q, LfIn w B y) (h2 : ∀ y ∈ q', LfIn w B' y) (hB : B ≤ w.heap.size) (hB' : B' ≤ w.heap.size) :
    Calls Try.prog 81 #[.slice A n c, .slice A' m c', .func (.func 80) #[] #[]] w fun e w' => e = .returned (.bool (decide (q.map Lf.l = q'.map Lf.l))) ∧ Below w.heap.size w w' := by
  unfold maxLen at hn hm
  have hlen := hA.len
  have hlen' := hA'.len
  obtain ⟨r, hr⟩ : ∃ r, r = decide (q.map Lf.l = q'.map Lf.l) := ⟨_, rfl⟩
  rw [← hr]
  obtain ⟨lv, hlv⟩ : ∃ z, z = q.map Lf.l := ⟨_, rfl⟩
  obtain ⟨lv', hlv'⟩ : ∃ z, z = q'.map Lf.l := ⟨_, rfl⟩
  rw [← hlv, ← hlv'] at hr
  have hl1 : lv.length = n := by rw [hlv, List.length_map, hlen]
  have hl2 : lv'.length = m := by rw [hlv', List.length_map, hlen']
  have hat : ∀ k (h1 : k < q.length) (h2 : k < lv.length), lv[k] = q[k].l := fun k h1 h2 => by simp [hlv]
  have hat' : ∀ k (h1 : k < q'.length) (h2 : k < lv'.length), lv'[k] = q'[k].l := fun k h1 h2 => by simp [hlv']
  by_cases hnm : n = m
  · subst hnm
    have HL := hide (And.intro hl1 (And.intro hl2 (And.intro hlen hlen')))
    have HAT := hide (And.intro hat hat')
    have HIN := hide (And.intro h1 h2)
    have HR := hide hr
    clear hlen hlen' hr hl1 hl2 hat hat' h1 h2 hlv hlv'
    have h0 := SamL.start lv lv'
    go_enter Try.func81, Try.ntmps81
    go_wp2
    go_loopw [17] (fun i wr => ∃ j : Nat, j ≤ n ∧ i = .int .i64 j ∧ SamL lv lv' j ∧ Below w.heap.size w wr) (fun i _ => n - (intOf i).toNat)
    case atStart => exact ⟨0, Nat.zero_le _, rfl, h0, Below.refl _ _⟩
    case round =>
      obtain ⟨j, hj, rfl, hsame, hb⟩ := hrel
      clear h0
      by_cases hlt : j < n
      · obtain ⟨ad, hl, rfl, hbl, hc⟩ := (hA.below (hb.mono hB)).at_ lfOk hlt
        obtain ⟨ad', hl', rfl, hbl', hc'⟩ := (hA'.below (hb.mono hB')).at_ lfOk hlt
        have k1 : j < lv.length := by rw [HL.out.1]; exact hlt
        have k2 : j < lv'.length := by rw [HL.out.2.1]; exact hlt
        have hst := hsame.step k1 k2
        have e1 := HAT.out.1 j hl k1
        have e2 := HAT.out.2 j hl' k2
        have hne : lv[j] ≠ lv'[j] → r = false := fun h => by rw [HR.out]; exact decide_eq_false fun e => h (by subst e; rfl)
        have y1 := HIN.out.1 q[j] (List.getElem_mem hl)
        have y2 := HIN.out.2 q'[j] (List.getElem_mem hl')
        rw [e1, e2] at hst hne
        obtain ⟨z, hz⟩ : ∃ z, z = q[j] := ⟨_, rfl⟩
        obtain ⟨z', hz'⟩ : ∃ z, z = q'[j] := ⟨_, rfl⟩
        rw [← hz] at hc hst hne y1
        rw [← hz'] at hc' hst hne y2
        have c0 := lf_at hc
        have d0 := lf_at hc'
        have ce := sequal_any z.A z'.A z.m z'.m z.c z'.c z.l z'.l B B' wr (y1.below (hb.mono hB)).es (y2.below (hb.mono hB')).es (Nat.le_trans y1.mc y1.room) (Nat.le_trans y2.mc y2.room)
        have z1 : (0 : Int) ≤ (j : Int) := by omega
        have z2 : (j : Int) < (n : Int) := by omega
        clear hz hz' e1 e2 hc hc' y1 y2 hsame
        obtain ⟨u, hu⟩ : ∃ u, u = decide (z.l = z'.l) := ⟨_, rfl⟩
        rw [← hu] at ce
        cases u
        · have hf := hne (of_decide_eq_false hu.symm)
          have HI := hide hf
          clear hf hst hne hu
          go_wp2_with fail
          refine ce.mono ?_
          rintro e w1 ⟨rfl, hd⟩
          have hb2 := hb.trans ((drawn_below hd).mono hb.size)
          go_wp2
          go_ret
          exact ⟨ret_bool HI.out.symm, hb2⟩
        · have hs := hst (of_decide_eq_true hu.symm)
          have HS := hide hs
          clear hs hst hne hu
          go_wp2_with fail
          refine ce.mono ?_
          rintro e w1 ⟨rfl, hd⟩
          have hb2 := hb.trans ((drawn_below hd).mono hb.size)
          go_wp2
          go_roundw
          case rel => exact ⟨j + 1, by omega, by go_num, HS.out, hb2⟩
          case measure => simp [intOf]; omega
      · have hf : r = true := by rw [HR.out]; exact decide_eq_true (hsame.done (by rw [HL.out.1]; omega) (by rw [HL.out.2.1]; omega))
        have HI := hide hf
        clear hf
        go_wp2
        go_ret
        exact ⟨ret_bool HI.out.symm, hb⟩
  · have hf : r = false := by rw [hr]; exact decide_eq_false (fun e => hnm (by rw [← hl1, ← hl2, e]))
    have HI := hide hf
    have hne : ((n : Int) != (m : Int)) = true := by simp; omega
    clear hf hr hlen hlen' hl1 hl2
    go_enter Try.func81, Try.ntmps81
    go_wp2
    go_ret
    exact ⟨ret_bool HI.out.symm, Below.refl _ _⟩
theorem Vi.ext' {a b : Vi} (h1 : a.id = b.id) (h2 : a.mem = b.mem) (h3 : a.lvs = b.lvs) (h4 : a.ldr = b.ldr) : a = b := by
  cases a; cases b; simp only at h1 h2 h3 h4; subst h1; subst h2; subst h3; subst h4; rfl
end Go.Proofs.Ytdmihbicpjmgjaa
