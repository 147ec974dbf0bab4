/-
  The law choraguslaw08.ViewLocals answers true, and does not panic, for every argument that its row allows. Conditions: none but the row's own.
-/
import Derived.Test.YthloamhodapmpaaRows
import Derived.WalkKit
import Derived.ProofKit
import Derived.OpenShut
import Derived.ShutString
import Derived.ChangeOld
import Derived.Below
import Derived.Test.YthloamhodapmpaaOpen
import Derived.Test.YthloamhodapmpaaViewL
namespace Go.Proofs.Ythloamhodapmpaa.viewLocals
open Go.ChangeShapes Go.WideShapes Go.ChangeAt Go.RowKit
open Go.ChangeMaps (open_string shut_string)
set_option linter.unusedVariables false
set_option linter.unusedSimpArgs false

section
variable {P : Program} {ops : Array Oper} {w0 : World} {n : Nat} {Γ : Tmp → Word} {E : (Tmp → Word) → Prop} {o : Oper} {l : List Oper}
theorem wanted_off {o : Oper} {g : Nat} {b : Bool} {t : Tmp} {a : Act} (h : o.guard = some (g, b)) (ht : ((ops[g]?).bind (·.dst)) = some t) (hv : a.eval (.tmp t) = undef) : Region.wanted o (yielded ops a.tmps) = false := by
  have e : yielded ops a.tmps g = none := by
    unfold yielded
    rw [ht]
    simp only [Act.eval, Array.getD_eq_getD_getElem?] at hv
    cases hx : a.tmps[t]? with
    | none => simp [hx]
    | some x =>
      rw [hx] at hv
      simp only [Option.getD_some] at hv
      subst hv
      simp only [Option.bind_some, hx]
      rfl
  simp [Region.wanted, h, e]
theorem flow_off (i : Nat) (b : Bool) (tg : Tmp) (hg : o.guard = some (i, b)) (htg : ((ops[i]?).bind (·.dst)) = some tg) (hb : ∀ v w, Γ tg v w → v = undef)
    (next : flow P ops w0 n E l (tput Γ o.dst fun v _ => v = undef)) : flow P ops w0 n E (o :: l) Γ :=
  ⟨_, fun _ _ _ h _ => h, fun a w _ hw hf => by
    have hin : tg ∈ o.looksAt ops := by unfold Oper.looksAt; rw [hg]; simp [htg]
    have hv := hb _ _ (hf tg hin)
    rw [if_neg (by rw [wanted_off hg htg hv]; simp)], next⟩
end
/-- A view of the call's own, as a value. -/
def LocW (base : Nat) (z : Vi) (v : Value) (w : World) : Prop := ∃ y : Vw, v = .agg #[.int .u64 (y.id : Int), .slice y.A y.m y.c, .slice y.B y.d y.e, .slice y.C y.f y.g] ∧ y.v = z ∧ VwOwn w base y ∧ VSmall y
theorem locW_steady (base : Nat) (z : Vi) : Steady (LocW base z) := fun v w w' ⟨y, e, h1, h2, h3⟩ hb => ⟨y, e, h1, h2.later hb, h3⟩
def RowW (base : Nat) (r : List Vi) (v : Value) (w : World) : Prop := ∃ A' c' ys, v = .slice A' ys.length c' ∧ OwnE 26 vwC 4 w base (.slice A' ys.length c') ys.length ys ∧ ys.map Vw.v = r ∧ ∀ y ∈ ys, VwOwn w base y ∧ y.id < 18446744073709551616 ∧ VSmall y
theorem rowW8_steady (base : Nat) (r : List Vi) : Steady (RowW base r) := fun v w w' ⟨A, c, ys, e, h1, h2, h3⟩ hb => ⟨A, c, ys, e, OwnE.later h1 hb, h2, fun y hy => ⟨(h3 y hy).1.later hb, (h3 y hy).2⟩⟩
def RRowW (base B : Nat) (r : List Vi) (v : Value) (w : World) : Prop := ∃ A' c' ys, v = .slice A' ys.length c' ∧ OwnE 26 vwC 4 w base (.slice A' ys.length c') ys.length ys ∧ ys.map Vw.v = r ∧ (∀ y ∈ ys, VwIn w B y) ∧ B ≤ w.heap.size
theorem rRowW_steady (base B : Nat) (r : List Vi) : Steady (RRowW base B r) := fun v w w' ⟨A, c, ys, e, h1, h2, h3, hB⟩ hb => ⟨A, c, ys, e, OwnE.later h1 hb, h2, fun y hy => (h3 y hy).below (hb.mono hB), Nat.le_trans hB hb.size⟩
/-- The first k views are small. -/
def SmTo (vs : List Vw) (k : Nat) : Prop := ∀ v ∈ vs.take k, VSmall v
theorem SmTo.start (vs : List Vw) : SmTo vs 0 := fun v h => by simp at h
theorem SmTo.step {vs : List Vw} {k : Nat} (h : SmTo vs k) (hk : k < vs.length) (hv : VSmall vs[k]) : SmTo vs (k + 1) := by
  unfold SmTo at *
  rw [List.take_succ_eq_append_getElem hk]
  intro v hv'
  rw [List.mem_append, List.mem_singleton] at hv'
  exact hv'.elim (h v) (fun e => e ▸ hv)
theorem SmTo.done {vs : List Vw} {k : Nat} (h : SmTo vs k) (hk : vs.length ≤ k) : ∀ v ∈ vs, VSmall v := by
  unfold SmTo at h
  rwa [List.take_of_length_le hk] at h
set_option maxRecDepth 100000 in
set_option maxHeartbeats 4000000 in
theorem walk (A : Option Addr) (n c : Nat) (vs : List Vw) (pi pc : Nat) (w : World) (h0 : Views0 w A n c vs) (hpi : pi < 65536) (hpc : pc < 4294967296) :
    Calls Try.prog 8 #[.slice A n c, .agg #[.int .u16 (pi : Int), .int .u32 (pc : Int)]] w fun e w' => e = .returned (.bool true) ∧ Below w.heap.size w w' := by
  obtain ⟨p, hp1, hp2⟩ : ∃ p : Pr, p.i = pi ∧ p.k = pc := ⟨⟨pi, pc, hpi, hpc⟩, rfl, rfl⟩
  subst hp1 hp2
  clear hpi hpc
  obtain ⟨hA, hc2, hm2, hvs⟩ := h0
  unfold maxLen at hm2
  have hbz : Below w.heap.size w (w.alloc (.cells #[.int .u16 (p.i : Int), .int .u32 (p.k : Int)] 34)) := (Below.refl _ _).alloc (Nat.le_refl _) _
  have p0 : (w.alloc (.cells #[.int .u16 (p.i : Int), .int .u32 (p.k : Int)] 34)).cell? ⟨w.heap.size, 0, none⟩ = some (.int .u16 (p.i : Int)) := by go_simp
  have p1 : (w.alloc (.cells #[.int .u16 (p.i : Int), .int .u32 (p.k : Int)] 34)).cell? ⟨w.heap.size, 1, none⟩ = some (.int .u32 (p.k : Int)) := by go_simp
  have hszz : w.heap.size + 1 ≤ (w.alloc (.cells #[.int .u16 (p.i : Int), .int .u32 (p.k : Int)] 34)).heap.size := by simp
  have hlen := hA.len
  have HL := hide (And.intro hlen hvs)
  have s0 := SmTo.start vs
  clear hlen hvs
  go_enter Try.func8, Try.ntmps8
  by_cases h1 : 12 < n
  · have y1 : decide ((12 : Int) < (n : Int)) = true := decide_eq_true (by omega)
    go_wp2_with fail
    refine (awake8_any _).mono ?_
    rintro e w3 ⟨rfl, hb1⟩
    have hb4 := hbz.trans (hb1.mono hbz.size)
    go_wp2
    go_ret
    exact ⟨rfl, hb4⟩
  have y1 : decide ((12 : Int) < (n : Int)) = false := decide_eq_false (by omega)
  have hn12 : n ≤ 12 := by omega
  clear h1
  go_wp2
  clear y1
  go_loopw [5] (fun i wr => ∃ k : Nat, k ≤ n ∧ i = .int .i64 k ∧ SmTo vs k ∧ wr.cell? ⟨w.heap.size, 0, none⟩ = some (.int .u16 (p.i : Int)) ∧ wr.cell? ⟨w.heap.size, 1, none⟩ = some (.int .u32 (p.k : Int)) ∧ Below w.heap.size w wr) (fun i _ => n - (intOf i).toNat)
  case atStart => exact ⟨0, Nat.zero_le _, rfl, s0, p0, p1, hbz⟩
  case round =>
    clear s0 p0 p1 hbz hszz
    obtain ⟨k, hk, rfl, hsm, p0, p1, hb⟩ := hrel
    have hbase : w.heap.size + 1 ≤ wr.heap.size := World.block_lt_of_cell? wr _ p0
    have hbase0 : w.heap.size ≤ wr.heap.size := hb.size
    by_cases hlt : k < n
    · obtain ⟨ad, hl, rfl, _, hcc⟩ := (hA.below hb).at_ vwOk hlt
      have hx0 := HL.out.2 vs[k] (List.getElem_mem hl)
      have hst := hsm.step hl
      obtain ⟨x, hxe⟩ : ∃ x, x = vs[k] := ⟨_, rfl⟩
      rw [← hxe] at hcc hx0 hst
      obtain ⟨a0, a1, a2, a3⟩ := vw_at hcc
      have x1 : (0 : Int) ≤ (k : Int) := by omega
      have x2 : (k : Int) < (n : Int) := by omega
      have x3 : k < n := hlt
      have cg := great8_any x w.heap.size wr (hx0.below hb) hb.size
      unfold Great8P at cg
      clear hxe hcc hsm
      go_wp2_with fail
      refine cg.mono ?_
      rintro e w1 ⟨gb, rfl, hgs, hb1⟩
      have hb2 := hb.trans (hb1.mono hb.size)
      cases gb
      · have hxs := hgs rfl
        have hst := hst hxs
        obtain ⟨z, hz⟩ := locP_ex x.v p
        replace a0 := cellL a0 hb1
        replace a1 := cellL a1 hb1
        replace a2 := cellL a2 hb1
        replace a3 := cellL a3 hb1
        replace p0 := cellL p0 hb1
        replace p1 := cellL p1 hb1
        have hbase : w.heap.size + 1 ≤ w1.heap.size := Nat.le_trans hbase hb1.size
        have hbase0 : w.heap.size ≤ w1.heap.size := hb2.size
        have n1 := fun W (h : Below w1.heap.size w1 W) => local_any x p w.heap.size W z (hx0.below (hb2.trans (h.mono hb2.size))) hxs (Nat.le_trans hbase0 h.size) hz
        unfold LocalP at n1
        have k1 := fun W (h : Below w1.heap.size w1 W) => And.intro (cellL a0 h) (And.intro (cellL a1 h) (And.intro (cellL a2 h) (cellL a3 h)))
        have k2 := fun W (h : Below w1.heap.size w1 W) => And.intro (cellL p0 h) (cellL p1 h)
        have HS := hide hst
        clear hst hgs cg hb hb1
        go_wp2_with fail
        refine wp_region_flow_tail 7 (by kernel_rfl) (by kernel_rfl) (by kernel_rfl) ?_
        simp only [List.take_succ_cons, List.take_zero, List.drop_succ_cons, List.drop_zero]
        refine flow_val rfl ?_
        apply Exists.intro
        apply And.intro
        · intro ρ w8 hr hf
          have r1 := hr.const
          have r2 := hr.func
          try simp [Oper.looksAt, Op.operands, Call.operands, tput, frameW, Act.eval] at hf
          go_simp
          try rfl
        refine flow_val rfl ?_
        apply Exists.intro
        apply And.intro
        · intro ρ w8 hr hf
          have r1 := hr.const
          have r2 := hr.func
          try simp [Oper.looksAt, Op.operands, Call.operands, tput, frameW, Act.eval] at hf
          go_simp
          try rfl
        refine flow_val rfl ?_
        apply Exists.intro
        apply And.intro
        · intro ρ w8 hr hf
          have r1 := hr.const
          have r2 := hr.func
          try simp [Oper.looksAt, Op.operands, Call.operands, tput, frameW, Act.eval] at hf
          go_simp
          try rfl
        refine flow_pure (.agg #[.int .u64 (x.id : Int), .slice x.A x.m x.c, .slice x.B x.d x.e, .slice x.C x.f x.g]) rfl ?_ ?_
        · intro ρ w8 hr hw hf
          obtain ⟨h8, h9, h10, h11⟩ := k1 w8 hw
          try simp [Oper.looksAt, Op.operands, Call.operands, tput, frameW, Act.eval] at hf
          go_simp
        refine flow_pure (.agg #[.int .u16 (p.i : Int), .int .u32 (p.k : Int)]) rfl ?_ ?_
        · intro ρ w8 hr hw hf
          have h8 := (k2 w8 hw).1
          have h9 := (k2 w8 hw).2
          try simp [Oper.looksAt, Op.operands, Call.operands, tput, frameW, Act.eval] at hf
          go_simp
        refine flow_step (LocW (w.heap.size + 1) z) rfl (locW_steady _ _) ?_ ?_
        · intro ρ w8 hr hw hf
          have r2 := hr.func
          simp [Oper.looksAt, Op.operands, Call.operands, tput, frameW, Act.eval] at hf
          have CN := hide (n1 w8 hw)
          go_simp
          refine ⟨Below.refl _ _, (unhide CN).mono ?_⟩
          rintro e w7 ⟨y, rfl, hy1, hy2, hy3, hb7⟩
          exact ⟨_, rfl, hb7, y, rfl, hy1, hy2.mono (Nat.le_trans hbase hw.size), hy3⟩
        refine flow_alloc zeroView8 rfl rfl ?_
        refine flow_nil ?_
        intro f9 w9 hb9 hf
        have g31 := hf 31
        simp [tput, frameW, Act.eval] at g31
        obtain ⟨y, g31, hyv, hyo, hysm⟩ := g31
        have g6 := hf 6
        simp [tput, frameW, Act.eval] at g6
        obtain ⟨gv, g6, hgv, hgc⟩ := g6
        have z9 : VAt w9 gv zeroX := hgc
        have g0 := hf 0; simp [tput, frameW, Act.eval] at g0
        have g1 := hf 1; simp [tput, frameW, Act.eval] at g1
        have g2 := hf 2; simp [tput, frameW, Act.eval] at g2
        have g3 := hf 3; simp [tput, frameW, Act.eval] at g3
        have g5 := hf 5; simp [tput, frameW, Act.eval] at g5
        have g7 := hf 7; simp [tput, frameW, Act.eval] at g7
        have g8 := hf 8; simp [tput, frameW, Act.eval] at g8
        have g9 := hf 9; simp [tput, frameW, Act.eval] at g9
        have g10 := hf 10; simp [tput, frameW, Act.eval] at g10
        have g11 := hf 11; simp [tput, frameW, Act.eval] at g11
        have g12 := hf 12; simp [tput, frameW, Act.eval] at g12
        have g13 := hf 13; simp [tput, frameW, Act.eval] at g13
        have g59 := hf 59; simp [tput, frameW, Act.eval] at g59
        have g60 := hf 60; simp [tput, frameW, Act.eval] at g60
        have g61 := hf 61; simp [tput, frameW, Act.eval] at g61
        have g62 := hf 62; simp [tput, frameW, Act.eval] at g62
        have g63 := hf 63; simp [tput, frameW, Act.eval] at g63
        have g64 := hf 64; simp [tput, frameW, Act.eval] at g64
        have g65 := hf 65; simp [tput, frameW, Act.eval] at g65
        have g66 := hf 66; simp [tput, frameW, Act.eval] at g66
        have g67 := hf 67; simp [tput, frameW, Act.eval] at g67
        have g68 := hf 68; simp [tput, frameW, Act.eval] at g68
        have g69 := hf 69; simp [tput, frameW, Act.eval] at g69
        have g70 := hf 70; simp [tput, frameW, Act.eval] at g70
        have g71 := hf 71; simp [tput, frameW, Act.eval] at g71
        have g72 := hf 72; simp [tput, frameW, Act.eval] at g72
        have g73 := hf 73; simp [tput, frameW, Act.eval] at g73
        have g74 := hf 74; simp [tput, frameW, Act.eval] at g74
        have g75 := hf 75; simp [tput, frameW, Act.eval] at g75
        have g76 := hf 76; simp [tput, frameW, Act.eval] at g76
        have g77 := hf 77; simp [tput, frameW, Act.eval] at g77
        have g78 := hf 78; simp [tput, frameW, Act.eval] at g78
        have g79 := hf 79; simp [tput, frameW, Act.eval] at g79
        have g80 := hf 80; simp [tput, frameW, Act.eval] at g80
        have g81 := hf 81; simp [tput, frameW, Act.eval] at g81
        have g82 := hf 82; simp [tput, frameW, Act.eval] at g82
        have g83 := hf 83; simp [tput, frameW, Act.eval] at g83
        have g84 := hf 84; simp [tput, frameW, Act.eval] at g84
        have g85 := hf 85; simp [tput, frameW, Act.eval] at g85
        have g86 := hf 86; simp [tput, frameW, Act.eval] at g86
        rw [show frameOf f9 _ _ = ⟨#[f9 0, f9 1, f9 2, f9 3, f9 4, f9 5, f9 6, f9 7, f9 8, f9 9, f9 10, f9 11, f9 12, f9 13, f9 14, f9 15, f9 16, f9 17, f9 18, f9 19, f9 20, f9 21, f9 22, f9 23, f9 24, f9 25, f9 26, f9 27, f9 28, f9 29, f9 30, f9 31, f9 32, f9 33, f9 34, f9 35, f9 36, f9 37, f9 38, f9 39, f9 40, f9 41, f9 42, f9 43, f9 44, f9 45, f9 46, f9 47, f9 48, f9 49, f9 50, f9 51, f9 52, f9 53, f9 54, f9 55, f9 56, f9 57, f9 58, f9 59, f9 60, f9 61, f9 62, f9 63, f9 64, f9 65, f9 66, f9 67, f9 68, f9 69, f9 70, f9 71, f9 72, f9 73, f9 74, f9 75, f9 76, f9 77, f9 78, f9 79, f9 80, f9 81, f9 82, f9 83, f9 84, f9 85, f9 86], []⟩ from rfl, g31, g6, g0, g1, g2, g3, g5, g7, g8, g9, g10, g11, g12, g13, g59, g60, g61, g62, g63, g64, g65, g66, g67, g68, g69, g70, g71, g72, g73, g74, g75, g76, g77, g78, g79, g80, g81, g82, g83, g84, g85, g86]
        clear hf n1 k1 k2 hgc
        have hb3 : Below w.heap.size w (put4 w9 gv y) := below_put4 (hb2.trans (hb9.mono hb2.size)) (Nat.le_trans hbase0 hgv)
        have hbr : Below w1.heap.size w1 (put4 w9 gv y) := below_put4 hb9 hgv
        have v3 := z9.put y
        have hyo3 : VwOwn (put4 w9 gv y) (w.heap.size + 1) y := VwOwn.put4_ hyo z9 y
        have hzid : z.id = y.id := by rw [← hyv]; rfl
        have hzhi := locP_hi hz
        have hyid : y.id < 18446744073709551616 := by omega
        replace a0 := cellL a0 hbr
        replace a1 := cellL a1 hbr
        replace a2 := cellL a2 hbr
        replace a3 := cellL a3 hbr
        replace p0 := cellL p0 hbr
        replace p1 := cellL p1 hbr
        obtain ⟨j0, j1, j2, j3⟩ := z9.cells
        simp only [zeroX] at j0 j1 j2 j3
        have w0 := z9.fz 0
        have w1' := z9.fz 1
        have w2 := z9.fz 2
        have w3' := z9.fz 3
        have w4' := z9.lt
        have hbase : w.heap.size + 1 ≤ (put4 w9 gv y).heap.size := Nat.le_trans hbase hbr.size
        have hbase0 : w.heap.size ≤ (put4 w9 gv y).heap.size := hb3.size
        have hw3 : (((w9.setCell ⟨gv, 0, none⟩ (.int .u64 (y.id : Int))).setCell ⟨gv, 1, none⟩ (.slice y.A y.m y.c)).setCell ⟨gv, 2, none⟩ (.slice y.B y.d y.e)).setCell ⟨gv, 3, none⟩ (.slice y.C y.f y.g) = put4 w9 gv y := rfl
        clear hb9 hbr hyo z9 hb2
        generalize put4 w9 gv y = w3 at *
        have k1 := fun W (h : Below w3.heap.size w3 W) => And.intro (cellL a0 h) (And.intro (cellL a1 h) (And.intro (cellL a2 h) (cellL a3 h)))
        have k2 := fun W (h : Below w3.heap.size w3 W) => And.intro (cellL p0 h) (cellL p1 h)
        have k3 := fun W (h : Below w3.heap.size w3 W) => (v3.later h).cells
        have n2 := fun W (h : Below w3.heap.size w3 W) => rlocal_any x p w.heap.size W z (hx0.below (hb3.trans (h.mono hb3.size))) hxs (Nat.le_trans hbase0 h.size) hz
        unfold RLocalP at n2
        have n3 := fun W (h : Below w3.heap.size w3 W) (u : Vw) (h1 : u.v = z) (h2 : VwIn W w.heap.size u) (h3 : w.heap.size ≤ W.heap.size) => rvsame_any y u W.heap.size w.heap.size W true ((hyo3.later h).in_ hyid) h2 (Nat.le_refl _) h3 ⟨fun _ => by rw [hyv, h1], fun _ => rfl⟩
        clear a0 a1 a2 a3 p0 p1
        by_cases hy0 : y.id = 0
        · have u1 : decide ((0 : Int) < (y.id : Int)) = false := decide_eq_false (by omega)
          have u2 : decide (0 < y.id) = false := decide_eq_false (by omega)
          have n4 : True := trivial
          have n5 : True := trivial
          have n6 : True := trivial
          clear hy0
          go_wp2_with fail
          clear hw3 j0 j1 j2 j3 w0 w1' w2 w3' w4'
          refine wp_region_flow (by kernel_rfl) (by kernel_rfl) (by kernel_rfl) ?_
          refine flow_pure (.agg #[.int .u64 (y.id : Int), .slice y.A y.m y.c, .slice y.B y.d y.e, .slice y.C y.f y.g]) rfl ?_ ?_
          · intro ρ w8 hr hw hf
            obtain ⟨h8, h9, h10, h11⟩ := k3 w8 hw
            try simp [Oper.looksAt, Op.operands, Call.operands, tput, frameW, Act.eval] at hf
            go_simp
          refine flow_val rfl ?_
          apply Exists.intro
          apply And.intro
          · intro ρ w8 hr hf
            have r1 := hr.const
            have r2 := hr.func
            try simp [Oper.looksAt, Op.operands, Call.operands, tput, frameW, Act.eval] at hf
            go_simp
            try rfl
          refine flow_val rfl ?_
          apply Exists.intro
          apply And.intro
          · intro ρ w8 hr hf
            have r1 := hr.const
            have r2 := hr.func
            try simp [Oper.looksAt, Op.operands, Call.operands, tput, frameW, Act.eval] at hf
            go_simp
            try rfl
          refine flow_val rfl ?_
          apply Exists.intro
          apply And.intro
          · intro ρ w8 hr hf
            have r1 := hr.const
            have r2 := hr.func
            try simp [Oper.looksAt, Op.operands, Call.operands, tput, frameW, Act.eval] at hf
            go_simp
            try rfl
          refine flow_pure (.agg #[.int .u64 (x.id : Int), .slice x.A x.m x.c, .slice x.B x.d x.e, .slice x.C x.f x.g]) rfl ?_ ?_
          · intro ρ w8 hr hw hf
            obtain ⟨h8, h9, h10, h11⟩ := k1 w8 hw
            try simp [Oper.looksAt, Op.operands, Call.operands, tput, frameW, Act.eval] at hf
            go_simp
          refine flow_pure (.agg #[.int .u16 (p.i : Int), .int .u32 (p.k : Int)]) rfl ?_ ?_
          · intro ρ w8 hr hw hf
            have h8 := (k2 w8 hw).1
            have h9 := (k2 w8 hw).2
            try simp [Oper.looksAt, Op.operands, Call.operands, tput, frameW, Act.eval] at hf
            go_simp
          refine flow_step (RLocW w.heap.size z) rfl (rLocW_steady _ _) ?_ ?_
          · intro ρ w8 hr hw hf
            have r2 := hr.func
            simp [Oper.looksAt, Op.operands, Call.operands, tput, frameW, Act.eval] at hf
            have CN := hide (n2 w8 hw)
            go_simp
            refine ⟨Below.refl _ _, (unhide CN).mono ?_⟩
            rintro e w7 ⟨u, rfl, hy1, hy2, hy3, hb7⟩
            exact ⟨_, rfl, hb7, u, rfl, hy1, hy2, hy3, Nat.le_trans hbase0 (Nat.le_trans hw.size hb7.size)⟩
          refine flow_step (fun v _ => v = .bool true) rfl (fun _ _ _ h _ => h) ?_ ?_
          · intro ρ w8 hr hw hf
            have r2 := hr.func
            simp [Oper.looksAt, Op.operands, Call.operands, tput, frameW, Act.eval] at hf
            obtain ⟨hf1, u, hf2, hu1, hu2, hu3, hu4⟩ := hf
            have CN := hide (n3 w8 hw u hu1 hu2 hu4)
            go_simp
            refine ⟨Below.refl _ _, (unhide CN).mono ?_⟩
            rintro e w7 ⟨rfl, hb7⟩
            exact ⟨_, rfl, hb7, rfl⟩
          refine flow_val rfl ?_
          apply Exists.intro
          apply And.intro
          · intro ρ w8 hr hf
            have r1 := hr.const
            have r2 := hr.func
            try simp [Oper.looksAt, Op.operands, Call.operands, tput, frameW, Act.eval] at hf
            go_simp
            try rfl
          refine flow_val rfl ?_
          apply Exists.intro
          apply And.intro
          · intro ρ w8 hr hf
            have r1 := hr.const
            have r2 := hr.func
            try simp [Oper.looksAt, Op.operands, Call.operands, tput, frameW, Act.eval] at hf
            go_simp
            try rfl
          refine flow_yes_val 9 false 41 rfl rfl (fun v w8 h8 => by simpa [tput] using h8) ?_
          apply Exists.intro
          apply And.intro
          · intro ρ w8 hr hf
            have r1 := hr.const
            have r2 := hr.func
            try simp [Oper.looksAt, Op.operands, Call.operands, tput, frameW, Act.eval] at hf
            go_simp
            try rfl
          refine flow_yes_pure (.int .u64 (y.id : Int)) 9 false 41 rfl rfl (fun v w8 h8 => by simpa [tput] using h8) ?_ ?_
          · intro ρ w8 hr hw hf
            obtain ⟨h8, h9, h10, h11⟩ := k3 w8 hw
            try simp [Oper.looksAt, Op.operands, Call.operands, tput, frameW, Act.eval] at hf
            go_simp
          refine flow_yes_val 9 false 41 rfl rfl (fun v w8 h8 => by simpa [tput] using h8) ?_
          apply Exists.intro
          apply And.intro
          · intro ρ w8 hr hf
            have r1 := hr.const
            have r2 := hr.func
            try simp [Oper.looksAt, Op.operands, Call.operands, tput, frameW, Act.eval] at hf
            go_simp
            try rfl
          refine flow_yes_val 9 false 41 rfl rfl (fun v w8 h8 => by simpa [tput] using h8) ?_
          apply Exists.intro
          apply And.intro
          · intro ρ w8 hr hf
            have r1 := hr.const
            have r2 := hr.func
            try simp [Oper.looksAt, Op.operands, Call.operands, tput, frameW, Act.eval] at hf
            go_simp
            try rfl
          refine flow_no 13 true 45 rfl rfl (fun v w8 h8 => by simpa [tput] using h8) ?_
          refine flow_no 13 true 45 rfl rfl (fun v w8 h8 => by simpa [tput] using h8) ?_
          refine flow_no 13 true 45 rfl rfl (fun v w8 h8 => by simpa [tput] using h8) ?_
          refine flow_no 13 true 45 rfl rfl (fun v w8 h8 => by simpa [tput] using h8) ?_
          refine flow_off 17 false 49 rfl rfl (fun v w8 h8 => by simpa [tput] using h8) ?_
          refine flow_off 17 false 49 rfl rfl (fun v w8 h8 => by simpa [tput] using h8) ?_
          refine flow_off 17 false 49 rfl rfl (fun v w8 h8 => by simpa [tput] using h8) ?_
          refine flow_off 17 false 49 rfl rfl (fun v w8 h8 => by simpa [tput] using h8) ?_
          refine flow_off 17 false 49 rfl rfl (fun v w8 h8 => by simpa [tput] using h8) ?_
          refine flow_off 17 false 49 rfl rfl (fun v w8 h8 => by simpa [tput] using h8) ?_
          refine flow_no 13 true 45 rfl rfl (fun v w8 h8 => by simpa [tput] using h8) ?_
          refine flow_yes_val 9 false 41 rfl rfl (fun v w8 h8 => by simpa [tput] using h8) ?_
          apply Exists.intro
          apply And.intro
          · intro ρ w8 hr hf
            have r1 := hr.const
            have r2 := hr.func
            try simp [Oper.looksAt, Op.operands, Call.operands, tput, frameW, Act.eval] at hf
            go_simp
            try rfl
          refine flow_val rfl ?_
          apply Exists.intro
          apply And.intro
          · intro ρ w8 hr hf
            have r1 := hr.const
            have r2 := hr.func
            try simp [Oper.looksAt, Op.operands, Call.operands, tput, frameW, Act.eval] at hf
            go_simp
            try rfl
          refine flow_nil ?_
          intro f9 w9 hb9 hf
          have g0 := hf 0; simp [tput, frameW, Act.eval] at g0
          have g1 := hf 1; simp [tput, frameW, Act.eval] at g1
          have g2 := hf 2; simp [tput, frameW, Act.eval] at g2
          have g3 := hf 3; simp [tput, frameW, Act.eval] at g3
          have g5 := hf 5; simp [tput, frameW, Act.eval] at g5
          have g7 := hf 7; simp [tput, frameW, Act.eval] at g7
          have g8 := hf 8; simp [tput, frameW, Act.eval] at g8
          have g9 := hf 9; simp [tput, frameW, Act.eval] at g9
          have g10 := hf 10; simp [tput, frameW, Act.eval] at g10
          have g11 := hf 11; simp [tput, frameW, Act.eval] at g11
          have g12 := hf 12; simp [tput, frameW, Act.eval] at g12
          have g13 := hf 13; simp [tput, frameW, Act.eval] at g13
          have g59 := hf 59; simp [tput, frameW, Act.eval] at g59
          have g60 := hf 60; simp [tput, frameW, Act.eval] at g60
          have g61 := hf 61; simp [tput, frameW, Act.eval] at g61
          have g62 := hf 62; simp [tput, frameW, Act.eval] at g62
          have g63 := hf 63; simp [tput, frameW, Act.eval] at g63
          have g64 := hf 64; simp [tput, frameW, Act.eval] at g64
          have g65 := hf 65; simp [tput, frameW, Act.eval] at g65
          have g66 := hf 66; simp [tput, frameW, Act.eval] at g66
          have g67 := hf 67; simp [tput, frameW, Act.eval] at g67
          have g68 := hf 68; simp [tput, frameW, Act.eval] at g68
          have g69 := hf 69; simp [tput, frameW, Act.eval] at g69
          have g70 := hf 70; simp [tput, frameW, Act.eval] at g70
          have g71 := hf 71; simp [tput, frameW, Act.eval] at g71
          have g72 := hf 72; simp [tput, frameW, Act.eval] at g72
          have g73 := hf 73; simp [tput, frameW, Act.eval] at g73
          have g74 := hf 74; simp [tput, frameW, Act.eval] at g74
          have g75 := hf 75; simp [tput, frameW, Act.eval] at g75
          have g76 := hf 76; simp [tput, frameW, Act.eval] at g76
          have g77 := hf 77; simp [tput, frameW, Act.eval] at g77
          have g78 := hf 78; simp [tput, frameW, Act.eval] at g78
          have g79 := hf 79; simp [tput, frameW, Act.eval] at g79
          have g80 := hf 80; simp [tput, frameW, Act.eval] at g80
          have g81 := hf 81; simp [tput, frameW, Act.eval] at g81
          have g82 := hf 82; simp [tput, frameW, Act.eval] at g82
          have g83 := hf 83; simp [tput, frameW, Act.eval] at g83
          have g84 := hf 84; simp [tput, frameW, Act.eval] at g84
          have g85 := hf 85; simp [tput, frameW, Act.eval] at g85
          have g86 := hf 86; simp [tput, frameW, Act.eval] at g86
          have g58 := hf 58; simp [tput, frameW, Act.eval] at g58
          rw [show frameOf f9 _ _ = ⟨#[f9 0, f9 1, f9 2, f9 3, f9 4, f9 5, f9 6, f9 7, f9 8, f9 9, f9 10, f9 11, f9 12, f9 13, f9 14, f9 15, f9 16, f9 17, f9 18, f9 19, f9 20, f9 21, f9 22, f9 23, f9 24, f9 25, f9 26, f9 27, f9 28, f9 29, f9 30, f9 31, f9 32, f9 33, f9 34, f9 35, f9 36, f9 37, f9 38, f9 39, f9 40, f9 41, f9 42, f9 43, f9 44, f9 45, f9 46, f9 47, f9 48, f9 49, f9 50, f9 51, f9 52, f9 53, f9 54, f9 55, f9 56, f9 57, f9 58, f9 59, f9 60, f9 61, f9 62, f9 63, f9 64, f9 65, f9 66, f9 67, f9 68, f9 69, f9 70, f9 71, f9 72, f9 73, f9 74, f9 75, f9 76, f9 77, f9 78, f9 79, f9 80, f9 81, f9 82, f9 83, f9 84, f9 85, f9 86], []⟩ from rfl, g58, g0, g1, g2, g3, g5, g7, g8, g9, g10, g11, g12, g13, g59, g60, g61, g62, g63, g64, g65, g66, g67, g68, g69, g70, g71, g72, g73, g74, g75, g76, g77, g78, g79, g80, g81, g82, g83, g84, g85, g86]
          have hb10 := hb3.trans (hb9.mono hb3.size)
          have q0 := (k2 w9 hb9).1
          have q1 := (k2 w9 hb9).2
          clear hf n2 n3 n4 n5 n6 k1 k2 k3 hb9
          go_wp2
          go_roundw
          case rel => exact ⟨k + 1, by omega, by go_num, HS.out, q0, q1, hb10⟩
          case measure => simp [intOf]; omega
        · have u1 : decide ((0 : Int) < (y.id : Int)) = true := decide_eq_true (by omega)
          have u2 : decide (0 < y.id) = true := decide_eq_true (by omega)
          obtain ⟨hmay, hloc⟩ := locP_may hz (by omega)
          rw [← hyv] at hmay
          have hloc' : LocP y.v p z := by rw [hyv]; exact hloc
          have n4 := fun W (h : Below w3.heap.size w3 W) => check_any y W.heap.size W true ((hyo3.later h).in_ hyid) hysm (Nat.le_refl _) ⟨fun _ => hmay, fun _ => rfl⟩
          rw [show ckI true = 0 from rfl] at n4
          have n5 := fun W (h : Below w3.heap.size w3 W) => local_any y p W.heap.size W z ((hyo3.later h).in_ hyid) hysm (Nat.le_refl _) hloc'
          unfold LocalP at n5
          have n6 := fun W (h : Below w3.heap.size w3 W) (u : Vw) (h1 : u.v = z) (h2 : VwOwn W (w.heap.size + 1) u) (h3 : VSmall u) => rvsame_any u y W.heap.size W.heap.size W true (h2.in_ (Nat.lt_of_le_of_lt (Nat.le_of_eq (by rw [← h1]; rfl : u.id = z.id)) (by omega))) ((hyo3.later h).in_ hyid) (Nat.le_refl _) (Nat.le_refl _) ⟨fun _ => by rw [hyv, h1], fun _ => rfl⟩
          clear hmay hloc hloc' hy0
          go_wp2_with fail
          clear hw3 j0 j1 j2 j3 w0 w1' w2 w3' w4'
          refine wp_region_flow (by kernel_rfl) (by kernel_rfl) (by kernel_rfl) ?_
          refine flow_pure (.agg #[.int .u64 (y.id : Int), .slice y.A y.m y.c, .slice y.B y.d y.e, .slice y.C y.f y.g]) rfl ?_ ?_
          · intro ρ w8 hr hw hf
            obtain ⟨h8, h9, h10, h11⟩ := k3 w8 hw
            try simp [Oper.looksAt, Op.operands, Call.operands, tput, frameW, Act.eval] at hf
            go_simp
          refine flow_val rfl ?_
          apply Exists.intro
          apply And.intro
          · intro ρ w8 hr hf
            have r1 := hr.const
            have r2 := hr.func
            try simp [Oper.looksAt, Op.operands, Call.operands, tput, frameW, Act.eval] at hf
            go_simp
            try rfl
          refine flow_val rfl ?_
          apply Exists.intro
          apply And.intro
          · intro ρ w8 hr hf
            have r1 := hr.const
            have r2 := hr.func
            try simp [Oper.looksAt, Op.operands, Call.operands, tput, frameW, Act.eval] at hf
            go_simp
            try rfl
          refine flow_val rfl ?_
          apply Exists.intro
          apply And.intro
          · intro ρ w8 hr hf
            have r1 := hr.const
            have r2 := hr.func
            try simp [Oper.looksAt, Op.operands, Call.operands, tput, frameW, Act.eval] at hf
            go_simp
            try rfl
          refine flow_pure (.agg #[.int .u64 (x.id : Int), .slice x.A x.m x.c, .slice x.B x.d x.e, .slice x.C x.f x.g]) rfl ?_ ?_
          · intro ρ w8 hr hw hf
            obtain ⟨h8, h9, h10, h11⟩ := k1 w8 hw
            try simp [Oper.looksAt, Op.operands, Call.operands, tput, frameW, Act.eval] at hf
            go_simp
          refine flow_pure (.agg #[.int .u16 (p.i : Int), .int .u32 (p.k : Int)]) rfl ?_ ?_
          · intro ρ w8 hr hw hf
            have h8 := (k2 w8 hw).1
            have h9 := (k2 w8 hw).2
            try simp [Oper.looksAt, Op.operands, Call.operands, tput, frameW, Act.eval] at hf
            go_simp
          refine flow_step (RLocW w.heap.size z) rfl (rLocW_steady _ _) ?_ ?_
          · intro ρ w8 hr hw hf
            have r2 := hr.func
            simp [Oper.looksAt, Op.operands, Call.operands, tput, frameW, Act.eval] at hf
            have CN := hide (n2 w8 hw)
            go_simp
            refine ⟨Below.refl _ _, (unhide CN).mono ?_⟩
            rintro e w7 ⟨u, rfl, hy1, hy2, hy3, hb7⟩
            exact ⟨_, rfl, hb7, u, rfl, hy1, hy2, hy3, Nat.le_trans hbase0 (Nat.le_trans hw.size hb7.size)⟩
          refine flow_step (fun v _ => v = .bool true) rfl (fun _ _ _ h _ => h) ?_ ?_
          · intro ρ w8 hr hw hf
            have r2 := hr.func
            simp [Oper.looksAt, Op.operands, Call.operands, tput, frameW, Act.eval] at hf
            obtain ⟨hf1, u, hf2, hu1, hu2, hu3, hu4⟩ := hf
            have CN := hide (n3 w8 hw u hu1 hu2 hu4)
            go_simp
            refine ⟨Below.refl _ _, (unhide CN).mono ?_⟩
            rintro e w7 ⟨rfl, hb7⟩
            exact ⟨_, rfl, hb7, rfl⟩
          refine flow_val rfl ?_
          apply Exists.intro
          apply And.intro
          · intro ρ w8 hr hf
            have r1 := hr.const
            have r2 := hr.func
            try simp [Oper.looksAt, Op.operands, Call.operands, tput, frameW, Act.eval] at hf
            go_simp
            try rfl
          refine flow_val rfl ?_
          apply Exists.intro
          apply And.intro
          · intro ρ w8 hr hf
            have r1 := hr.const
            have r2 := hr.func
            try simp [Oper.looksAt, Op.operands, Call.operands, tput, frameW, Act.eval] at hf
            go_simp
            try rfl
          refine flow_yes_val 9 false 41 rfl rfl (fun v w8 h8 => by simpa [tput] using h8) ?_
          apply Exists.intro
          apply And.intro
          · intro ρ w8 hr hf
            have r1 := hr.const
            have r2 := hr.func
            try simp [Oper.looksAt, Op.operands, Call.operands, tput, frameW, Act.eval] at hf
            go_simp
            try rfl
          refine flow_yes_pure (.int .u64 (y.id : Int)) 9 false 41 rfl rfl (fun v w8 h8 => by simpa [tput] using h8) ?_ ?_
          · intro ρ w8 hr hw hf
            obtain ⟨h8, h9, h10, h11⟩ := k3 w8 hw
            try simp [Oper.looksAt, Op.operands, Call.operands, tput, frameW, Act.eval] at hf
            go_simp
          refine flow_yes_val 9 false 41 rfl rfl (fun v w8 h8 => by simpa [tput] using h8) ?_
          apply Exists.intro
          apply And.intro
          · intro ρ w8 hr hf
            have r1 := hr.const
            have r2 := hr.func
            try simp [Oper.looksAt, Op.operands, Call.operands, tput, frameW, Act.eval] at hf
            go_simp
            try rfl
          refine flow_yes_val 9 false 41 rfl rfl (fun v w8 h8 => by simpa [tput] using h8) ?_
          apply Exists.intro
          apply And.intro
          · intro ρ w8 hr hf
            have r1 := hr.const
            have r2 := hr.func
            try simp [Oper.looksAt, Op.operands, Call.operands, tput, frameW, Act.eval] at hf
            go_simp
            try rfl
          refine flow_yes_pure (.agg #[.int .u64 (y.id : Int), .slice y.A y.m y.c, .slice y.B y.d y.e, .slice y.C y.f y.g]) 13 true 45 rfl rfl (fun v w8 h8 => by simpa [tput] using h8) ?_ ?_
          · intro ρ w8 hr hw hf
            obtain ⟨h8, h9, h10, h11⟩ := k3 w8 hw
            try simp [Oper.looksAt, Op.operands, Call.operands, tput, frameW, Act.eval] at hf
            go_simp
          refine flow_yes (fun v _ => v = .int .i64 0) 13 true 45 rfl rfl (fun v w8 h8 => by simpa [tput] using h8) (fun _ _ _ h _ => h) ?_ ?_
          · intro ρ w8 hr hw hf
            have r2 := hr.func
            simp [Oper.looksAt, Op.operands, Call.operands, tput, frameW, Act.eval] at hf
            have CN := hide (n4 w8 hw)
            go_simp
            refine ⟨Below.refl _ _, (unhide CN).mono ?_⟩
            rintro e w7 ⟨rfl, hb7⟩
            exact ⟨_, rfl, hb7, rfl⟩
          refine flow_yes_val 13 true 45 rfl rfl (fun v w8 h8 => by simpa [tput] using h8) ?_
          apply Exists.intro
          apply And.intro
          · intro ρ w8 hr hf
            have r1 := hr.const
            have r2 := hr.func
            try simp [Oper.looksAt, Op.operands, Call.operands, tput, frameW, Act.eval] at hf
            go_simp
            try rfl
          refine flow_yes_val 13 true 45 rfl rfl (fun v w8 h8 => by simpa [tput] using h8) ?_
          apply Exists.intro
          apply And.intro
          · intro ρ w8 hr hf
            have r1 := hr.const
            have r2 := hr.func
            try simp [Oper.looksAt, Op.operands, Call.operands, tput, frameW, Act.eval] at hf
            go_simp
            try rfl
          refine flow_yes_pure (.agg #[.int .u64 (y.id : Int), .slice y.A y.m y.c, .slice y.B y.d y.e, .slice y.C y.f y.g]) 17 false 49 rfl rfl (fun v w8 h8 => by simpa [tput] using h8) ?_ ?_
          · intro ρ w8 hr hw hf
            obtain ⟨h8, h9, h10, h11⟩ := k3 w8 hw
            try simp [Oper.looksAt, Op.operands, Call.operands, tput, frameW, Act.eval] at hf
            go_simp
          refine flow_yes_pure (.agg #[.int .u16 (p.i : Int), .int .u32 (p.k : Int)]) 17 false 49 rfl rfl (fun v w8 h8 => by simpa [tput] using h8) ?_ ?_
          · intro ρ w8 hr hw hf
            have h8 := (k2 w8 hw).1
            have h9 := (k2 w8 hw).2
            try simp [Oper.looksAt, Op.operands, Call.operands, tput, frameW, Act.eval] at hf
            go_simp
          refine flow_yes (LocW (w.heap.size + 1) z) 17 false 49 rfl rfl (fun v w8 h8 => by simpa [tput] using h8) (locW_steady _ _) ?_ ?_
          · intro ρ w8 hr hw hf
            have r2 := hr.func
            simp [Oper.looksAt, Op.operands, Call.operands, tput, frameW, Act.eval] at hf
            have CN := hide (n5 w8 hw)
            go_simp
            refine ⟨Below.refl _ _, (unhide CN).mono ?_⟩
            rintro e w7 ⟨y, rfl, hy1, hy2, hy3, hb7⟩
            exact ⟨_, rfl, hb7, y, rfl, hy1, hy2.mono (Nat.le_trans hbase hw.size), hy3⟩
          refine flow_yes_pure (.agg #[.int .u64 (y.id : Int), .slice y.A y.m y.c, .slice y.B y.d y.e, .slice y.C y.f y.g]) 17 false 49 rfl rfl (fun v w8 h8 => by simpa [tput] using h8) ?_ ?_
          · intro ρ w8 hr hw hf
            obtain ⟨h8, h9, h10, h11⟩ := k3 w8 hw
            try simp [Oper.looksAt, Op.operands, Call.operands, tput, frameW, Act.eval] at hf
            go_simp
          refine flow_yes (fun v _ => v = .bool true) 17 false 49 rfl rfl (fun v w8 h8 => by simpa [tput] using h8) (fun _ _ _ h _ => h) ?_ ?_
          · intro ρ w8 hr hw hf
            have r2 := hr.func
            simp [Oper.looksAt, Op.operands, Call.operands, tput, frameW, Act.eval] at hf
            obtain ⟨⟨u, hf1, hu1, hu2, hu3⟩, hf2⟩ := hf
            have CN := hide (n6 w8 hw u hu1 hu2 hu3)
            go_simp
            refine ⟨Below.refl _ _, (unhide CN).mono ?_⟩
            rintro e w7 ⟨rfl, hb7⟩
            exact ⟨_, rfl, hb7, rfl⟩
          refine flow_yes_val 17 false 49 rfl rfl (fun v w8 h8 => by simpa [tput] using h8) ?_
          apply Exists.intro
          apply And.intro
          · intro ρ w8 hr hf
            have r1 := hr.const
            have r2 := hr.func
            try simp [Oper.looksAt, Op.operands, Call.operands, tput, frameW, Act.eval] at hf
            go_simp
            try rfl
          refine flow_yes_val 13 true 45 rfl rfl (fun v w8 h8 => by simpa [tput] using h8) ?_
          apply Exists.intro
          apply And.intro
          · intro ρ w8 hr hf
            have r1 := hr.const
            have r2 := hr.func
            try simp [Oper.looksAt, Op.operands, Call.operands, tput, frameW, Act.eval] at hf
            go_simp
            try rfl
          refine flow_yes_val 9 false 41 rfl rfl (fun v w8 h8 => by simpa [tput] using h8) ?_
          apply Exists.intro
          apply And.intro
          · intro ρ w8 hr hf
            have r1 := hr.const
            have r2 := hr.func
            try simp [Oper.looksAt, Op.operands, Call.operands, tput, frameW, Act.eval] at hf
            go_simp
            try rfl
          refine flow_val rfl ?_
          apply Exists.intro
          apply And.intro
          · intro ρ w8 hr hf
            have r1 := hr.const
            have r2 := hr.func
            try simp [Oper.looksAt, Op.operands, Call.operands, tput, frameW, Act.eval] at hf
            go_simp
            try rfl
          refine flow_nil ?_
          intro f9 w9 hb9 hf
          have g0 := hf 0; simp [tput, frameW, Act.eval] at g0
          have g1 := hf 1; simp [tput, frameW, Act.eval] at g1
          have g2 := hf 2; simp [tput, frameW, Act.eval] at g2
          have g3 := hf 3; simp [tput, frameW, Act.eval] at g3
          have g5 := hf 5; simp [tput, frameW, Act.eval] at g5
          have g7 := hf 7; simp [tput, frameW, Act.eval] at g7
          have g8 := hf 8; simp [tput, frameW, Act.eval] at g8
          have g9 := hf 9; simp [tput, frameW, Act.eval] at g9
          have g10 := hf 10; simp [tput, frameW, Act.eval] at g10
          have g11 := hf 11; simp [tput, frameW, Act.eval] at g11
          have g12 := hf 12; simp [tput, frameW, Act.eval] at g12
          have g13 := hf 13; simp [tput, frameW, Act.eval] at g13
          have g59 := hf 59; simp [tput, frameW, Act.eval] at g59
          have g60 := hf 60; simp [tput, frameW, Act.eval] at g60
          have g61 := hf 61; simp [tput, frameW, Act.eval] at g61
          have g62 := hf 62; simp [tput, frameW, Act.eval] at g62
          have g63 := hf 63; simp [tput, frameW, Act.eval] at g63
          have g64 := hf 64; simp [tput, frameW, Act.eval] at g64
          have g65 := hf 65; simp [tput, frameW, Act.eval] at g65
          have g66 := hf 66; simp [tput, frameW, Act.eval] at g66
          have g67 := hf 67; simp [tput, frameW, Act.eval] at g67
          have g68 := hf 68; simp [tput, frameW, Act.eval] at g68
          have g69 := hf 69; simp [tput, frameW, Act.eval] at g69
          have g70 := hf 70; simp [tput, frameW, Act.eval] at g70
          have g71 := hf 71; simp [tput, frameW, Act.eval] at g71
          have g72 := hf 72; simp [tput, frameW, Act.eval] at g72
          have g73 := hf 73; simp [tput, frameW, Act.eval] at g73
          have g74 := hf 74; simp [tput, frameW, Act.eval] at g74
          have g75 := hf 75; simp [tput, frameW, Act.eval] at g75
          have g76 := hf 76; simp [tput, frameW, Act.eval] at g76
          have g77 := hf 77; simp [tput, frameW, Act.eval] at g77
          have g78 := hf 78; simp [tput, frameW, Act.eval] at g78
          have g79 := hf 79; simp [tput, frameW, Act.eval] at g79
          have g80 := hf 80; simp [tput, frameW, Act.eval] at g80
          have g81 := hf 81; simp [tput, frameW, Act.eval] at g81
          have g82 := hf 82; simp [tput, frameW, Act.eval] at g82
          have g83 := hf 83; simp [tput, frameW, Act.eval] at g83
          have g84 := hf 84; simp [tput, frameW, Act.eval] at g84
          have g85 := hf 85; simp [tput, frameW, Act.eval] at g85
          have g86 := hf 86; simp [tput, frameW, Act.eval] at g86
          have g58 := hf 58; simp [tput, frameW, Act.eval] at g58
          rw [show frameOf f9 _ _ = ⟨#[f9 0, f9 1, f9 2, f9 3, f9 4, f9 5, f9 6, f9 7, f9 8, f9 9, f9 10, f9 11, f9 12, f9 13, f9 14, f9 15, f9 16, f9 17, f9 18, f9 19, f9 20, f9 21, f9 22, f9 23, f9 24, f9 25, f9 26, f9 27, f9 28, f9 29, f9 30, f9 31, f9 32, f9 33, f9 34, f9 35, f9 36, f9 37, f9 38, f9 39, f9 40, f9 41, f9 42, f9 43, f9 44, f9 45, f9 46, f9 47, f9 48, f9 49, f9 50, f9 51, f9 52, f9 53, f9 54, f9 55, f9 56, f9 57, f9 58, f9 59, f9 60, f9 61, f9 62, f9 63, f9 64, f9 65, f9 66, f9 67, f9 68, f9 69, f9 70, f9 71, f9 72, f9 73, f9 74, f9 75, f9 76, f9 77, f9 78, f9 79, f9 80, f9 81, f9 82, f9 83, f9 84, f9 85, f9 86], []⟩ from rfl, g58, g0, g1, g2, g3, g5, g7, g8, g9, g10, g11, g12, g13, g59, g60, g61, g62, g63, g64, g65, g66, g67, g68, g69, g70, g71, g72, g73, g74, g75, g76, g77, g78, g79, g80, g81, g82, g83, g84, g85, g86]
          have hb10 := hb3.trans (hb9.mono hb3.size)
          have q0 := (k2 w9 hb9).1
          have q1 := (k2 w9 hb9).2
          clear hf n2 n3 n4 n5 n6 k1 k2 k3 hb9
          go_wp2
          go_roundw
          case rel => exact ⟨k + 1, by omega, by go_num, HS.out, q0, q1, hb10⟩
          case measure => simp [intOf]; omega
      · clear hgs hst cg
        go_wp2_with fail
        refine (awake8_any _).mono ?_
        rintro e w3 ⟨rfl, hb1⟩
        have hb4 := hb2.trans (hb1.mono hb2.size)
        go_wp2
        go_ret
        exact ⟨rfl, hb4⟩
    · have hall := hsm.done (by rw [HL.out.1]; omega)
      obtain ⟨zs, hz1, hz2⟩ := locs_ex p (vs.map Vw.v)
      have hzl : zs.length = n := by rw [hz1, List.length_map, HL.out.1]
      have hzz : ∀ i (h1 : i < vs.length) (h2 : i < zs.length), LocP vs[i].v p zs[i] := fun i h1 h2 => by
        have := hz2 i (by rw [List.length_map]; exact h1) h2
        rwa [List.getElem_map] at this
      have n1 := fun W (h : Below wr.heap.size wr W) => row_any A n c vs p w.heap.size W zs (hA.below (hb.trans (h.mono hb.size))) (fun v hv => ⟨(HL.out.2 v hv).below (hb.trans (h.mono hb.size)), hall v hv⟩) (Nat.le_trans hbase0 h.size) hn12 hzl hzz
      have n2 := fun W (h : Below wr.heap.size wr W) => rrow_any A n c vs p w.heap.size W zs (hA.below (hb.trans (h.mono hb.size))) (fun v hv => ⟨(HL.out.2 v hv).below (hb.trans (h.mono hb.size)), hall v hv⟩) (Nat.le_trans hbase0 h.size) hn12 hzl hzz
      unfold RowP at n1
      unfold RRowP at n2
      have k2 := fun W (h : Below wr.heap.size wr W) => And.intro (cellL p0 h) (cellL p1 h)
      clear hall hz1 hz2 hzz hsm p0 p1
      go_wp2_with fail
      clear hlt
      refine wp_region_flow (by kernel_rfl) (by kernel_rfl) (by kernel_rfl) ?_
      refine flow_val rfl ?_
      apply Exists.intro
      apply And.intro
      · intro ρ w8 hr hf
        have r1 := hr.const
        have r2 := hr.func
        try simp [Oper.looksAt, Op.operands, Call.operands, tput, frameW, Act.eval] at hf
        go_simp
        try rfl
      refine flow_pure (.agg #[.int .u16 (p.i : Int), .int .u32 (p.k : Int)]) rfl ?_ ?_
      · intro ρ w8 hr hw hf
        have h8 := (k2 w8 hw).1
        have h9 := (k2 w8 hw).2
        try simp [Oper.looksAt, Op.operands, Call.operands, tput, frameW, Act.eval] at hf
        go_simp
      refine flow_step (RowW (w.heap.size + 1) (rowF zs)) rfl (rowW8_steady _ _) ?_ ?_
      · intro ρ w8 hr hw hf
        have r2 := hr.func
        simp [Oper.looksAt, Op.operands, Call.operands, tput, frameW, Act.eval] at hf
        have CN := hide (n1 w8 hw)
        go_simp
        refine ⟨Below.refl _ _, (unhide CN).mono ?_⟩
        rintro e w7 ⟨A7, c7, ys, rfl, h1, h2, h3, hb7⟩
        exact ⟨_, rfl, hb7, A7, c7, ys, rfl, OwnE.mono h1 (Nat.le_trans hbase hw.size), h2, fun y hy => ⟨(h3 y hy).1.mono (Nat.le_trans hbase hw.size), (h3 y hy).2⟩⟩
      refine flow_val rfl ?_
      apply Exists.intro
      apply And.intro
      · intro ρ w8 hr hf
        have r1 := hr.const
        have r2 := hr.func
        try simp [Oper.looksAt, Op.operands, Call.operands, tput, frameW, Act.eval] at hf
        go_simp
        try rfl
      refine flow_pure (.agg #[.int .u16 (p.i : Int), .int .u32 (p.k : Int)]) rfl ?_ ?_
      · intro ρ w8 hr hw hf
        have h8 := (k2 w8 hw).1
        have h9 := (k2 w8 hw).2
        try simp [Oper.looksAt, Op.operands, Call.operands, tput, frameW, Act.eval] at hf
        go_simp
      refine flow_step (RRowW (w.heap.size + 1) w.heap.size (rowF zs)) rfl (rRowW_steady _ _ _) ?_ ?_
      · intro ρ w8 hr hw hf
        have r2 := hr.func
        simp [Oper.looksAt, Op.operands, Call.operands, tput, frameW, Act.eval] at hf
        have CN := hide (n2 w8 hw)
        go_simp
        refine ⟨Below.refl _ _, (unhide CN).mono ?_⟩
        rintro e w7 ⟨A7, c7, ys, rfl, h1, h2, h3, hb7⟩
        exact ⟨_, rfl, hb7, A7, c7, ys, rfl, OwnE.mono h1 (Nat.le_trans hbase hw.size), h2, h3, Nat.le_trans hbase0 (Nat.le_trans hw.size hb7.size)⟩
      refine flow_step (RowW (w.heap.size + 1) (rowF zs)) rfl (rowW8_steady _ _) ?_ ?_
      · intro ρ w8 hr hw hf
        simp [Oper.looksAt, Op.operands, Call.operands, tput, frameW, Act.eval] at hf
        have HF := hide hf
        clear hf
        go_simp
        exact ⟨Below.refl _ _, unhide HF⟩
      refine flow_step (RRowW (w.heap.size + 1) w.heap.size (rowF zs)) rfl (rRowW_steady _ _ _) ?_ ?_
      · intro ρ w8 hr hw hf
        simp [Oper.looksAt, Op.operands, Call.operands, tput, frameW, Act.eval] at hf
        have HF := hide hf
        clear hf
        go_simp
        exact ⟨Below.refl _ _, unhide HF⟩
      refine flow_nil ?_
      intro f9 w9 hb9 hf
      have g7 := hf 7
      simp [tput, frameW, Act.eval] at g7
      obtain ⟨A7, c7, ys, g7, ho7, hv7, hi7⟩ := g7
      have g8 := hf 8
      simp [tput, frameW, Act.eval] at g8
      obtain ⟨A8, c8, us, g8, ho8, hv8, hi8, hB8⟩ := g8
      have g0 := hf 0; simp [tput, frameW, Act.eval] at g0
      have g1 := hf 1; simp [tput, frameW, Act.eval] at g1
      have g2 := hf 2; simp [tput, frameW, Act.eval] at g2
      have g3 := hf 3; simp [tput, frameW, Act.eval] at g3
      have g4 := hf 4; simp [tput, frameW, Act.eval] at g4
      have g9 := hf 9; simp [tput, frameW, Act.eval] at g9
      have g86 := hf 86; simp [tput, frameW, Act.eval] at g86
      rw [show frameOf f9 _ _ = ⟨#[f9 0, f9 1, f9 2, f9 3, f9 4, f9 5, f9 6, f9 7, f9 8, f9 9, f9 10, f9 11, f9 12, f9 13, f9 14, f9 15, f9 16, f9 17, f9 18, f9 19, f9 20, f9 21, f9 22, f9 23, f9 24, f9 25, f9 26, f9 27, f9 28, f9 29, f9 30, f9 31, f9 32, f9 33, f9 34, f9 35, f9 36, f9 37, f9 38, f9 39, f9 40, f9 41, f9 42, f9 43, f9 44, f9 45, f9 46, f9 47, f9 48, f9 49, f9 50, f9 51, f9 52, f9 53, f9 54, f9 55, f9 56, f9 57, f9 58, f9 59, f9 60, f9 61, f9 62, f9 63, f9 64, f9 65, f9 66, f9 67, f9 68, f9 69, f9 70, f9 71, f9 72, f9 73, f9 74, f9 75, f9 76, f9 77, f9 78, f9 79, f9 80, f9 81, f9 82, f9 83, f9 84, f9 85, f9 86], []⟩ from rfl, g7, g8, g0, g1, g2, g3, g4, g9, g86]
      clear hf n1 n2 k2
      have hlen8 : us.length = ys.length := by have e := congrArg List.length (hv8.trans hv7.symm); simpa using e
      rw [hlen8] at g8 ho8
      have hl7 : ys.length ≤ 12 := by
        have h1 : ys.length = (rowF zs).length := by rw [← hv7, List.length_map]
        have h2 := rowF_len zs
        omega
      have hb10 := hb.trans (hb9.mono hb.size)
      have hvv : ys.map Vw.v = us.map Vw.v := hv7.trans hv8.symm
      clear hb9 hv7 hv8 hzl
      go_wp2_with fail
      go_loopw [9] (fun i wr => ∃ j : Nat, j ≤ ys.length ∧ i = .int .i64 j ∧ Below w9.heap.size w9 wr ∧ Below w.heap.size w wr) (fun i _ => ys.length - (intOf i).toNat)
      case atStart => exact ⟨0, Nat.zero_le _, rfl, Below.refl _ _, hb10⟩
      case round =>
        clear hb10
        obtain ⟨j, hj, rfl, hb11, hb12⟩ := hrel
        by_cases hjt : j < ys.length
        · have hju : j < us.length := by omega
          have o7 := OwnE.later ho7 hb11
          have o8 := OwnE.later ho8 hb11
          obtain ⟨ga, hga, hg1, hg2⟩ := OwnE.form o7 (by omega)
          obtain ⟨gb, hgb, hg3, hg4⟩ := OwnE.form o8 (by omega)
          have hve : ys[j].v = us[j].v := by
            have e := congrArg (fun l => l[j]?) hvv
            simpa [hjt, hju] using e
          have hya := hi7 ys[j] (List.getElem_mem hjt)
          have hub := hi8 us[j] (List.getElem_mem hju)
          rw [hga] at o7
          rw [hgb] at o8
          have e0' := OwnE.cell_ vwOk o7 hjt (show 0 < 4 by decide) (v := .int .u64 (ys[j].id : Int)) rfl
          rw [Nat.add_zero] at e0'
          have e0 := Later.cell e0'
          clear e0'
          have e1 := Later.cell (OwnE.cell_ vwOk o7 hjt (show 1 < 4 by decide) (v := .slice ys[j].A ys[j].m ys[j].c) rfl)
          have e2 := Later.cell (OwnE.cell_ vwOk o7 hjt (show 2 < 4 by decide) (v := .slice ys[j].B ys[j].d ys[j].e) rfl)
          have e3 := Later.cell (OwnE.cell_ vwOk o7 hjt (show 3 < 4 by decide) (v := .slice ys[j].C ys[j].f ys[j].g) rfl)
          have d0' := OwnE.cell_ vwOk o8 hju (show 0 < 4 by decide) (v := .int .u64 (us[j].id : Int)) rfl
          rw [Nat.add_zero] at d0'
          have d0 := Later.cell d0'
          clear d0'
          have d1 := Later.cell (OwnE.cell_ vwOk o8 hju (show 1 < 4 by decide) (v := .slice us[j].A us[j].m us[j].c) rfl)
          have d2 := Later.cell (OwnE.cell_ vwOk o8 hju (show 2 < 4 by decide) (v := .slice us[j].B us[j].d us[j].e) rfl)
          have d3 := Later.cell (OwnE.cell_ vwOk o8 hju (show 3 < 4 by decide) (v := .slice us[j].C us[j].f us[j].g) rfl)
          obtain ⟨y, hy⟩ : ∃ y, y = ys[j] := ⟨_, rfl⟩
          obtain ⟨u, hu⟩ : ∃ u, u = us[j] := ⟨_, rfl⟩
          rw [← hy] at e0 e1 e2 e3 hya hve
          rw [← hu] at d0 d1 d2 d3 hub hve
          have kq := fun Z : Later wr => calm_of (rvsame_any y u Z.w.heap.size w.heap.size Z.w true ((hya.1.later (hb11.trans (Z.below.mono hb11.size))).in_ hya.2.1) (hub.below ((hb11.trans (Z.below.mono hb11.size)).mono hB8)) (Nat.le_refl _) (Nat.le_trans hb12.size Z.below.size) ⟨fun _ => hve, fun _ => rfl⟩)
          have x1 : (0 : Int) ≤ (j : Int) := by omega
          have x2 : (j : Int) < (ys.length : Int) := by omega
          have x3 : j < ys.length := hjt
          clear hy hu hve hya hub o7 o8 hg1 hg2 hg3 hg4 hju
          subst hga hgb
          go_wp2_with fail
          refine wp_region_calm (by kernel_rfl) (by kernel_rfl) ?_
          repeat (go_big_quiet_step (first | (go_at_call 25; with_reducible exact kq _)))
          refine wpQuiet_nil ?_
          rintro _ ⟨x9, rfl⟩
          have hbw := x9.below
          generalize x9.w = w8 at hbw ⊢
          have hb13 := hb11.trans (hbw.mono hb11.size)
          have hb14 := hb12.trans (hbw.mono hb12.size)
          clear e0 e1 e2 e3 d0 d1 d2 d3 kq x1 x2 hb11 hb12 hbw
          go_wp2
          go_roundw
          case rel => exact ⟨j + 1, by omega, by go_num, hb13, hb14⟩
          case measure => simp [intOf]; omega
        · go_wp2_with fail
          clear hjt
          refine (awake8_any _).mono ?_
          rintro e w8 ⟨rfl, hbw⟩
          have hb14 := hb12.trans (hbw.mono hb12.size)
          go_wp2
          go_ret
          exact ⟨rfl, hb14⟩

/-! ### THE ROW's STEP -/
set_option maxRecDepth 100000 in
theorem lifted (os : Os) (started : os.Started) (H : Type) (enc : TypeId × Value → H) :
    ReturnsInHanded {} Try.checked os 8 .any (Rows.viewLocalsSpec.pre6 enc Try.prog Try.f8 Rows.viewLocalsRow.domain false) (Rows.viewLocalsSpec.post enc Try.prog Try.f8 false true false false) := by
  refine returnsInHanded_of_change (C := Try.checked) own started (by kernel_rfl) Try.func8
    (ChangeSpec.witness6 (enc := enc) (C := Try.checked) false ⟨#[], #[.slice none 0 0, .agg #[.int .u16 0, .int .u32 0]], []⟩ 8 (by kernel_rfl) (by kernel_rfl) (by kernel_rfl) (by kernel_rfl)) ?_
  intro W base args ds gs before hval0 hW hcnd _
  have hval : ∀ (j : Nat) t v, Try.f8.params[j]? = some t → args[j]? = some v → Value.okWide Try.prog W .any base t v := hval0
  have hW' := hW
  obtain ⟨p, q, hA0, hV, rfl, hfz, hnd⟩ := hW
  have hA : DataW.TrodAll enc Try.prog W 0 (fun _ => true) true Try.f8.params.toList args.toList ds p := hA0
  rw [Try.params8] at hA hval
  obtain ⟨v0, vs0, d0, ds0, p0, q0, hargs, rfl, rfl, h0, r0⟩ := trodAll_cons hA
  obtain ⟨v1, vs1, d1, ds1, p1, q1, rfl, rfl, rfl, h1, r1⟩ := trodAll_cons r0
  obtain ⟨rfl, rfl, rfl⟩ := trodAll_nil r1
  obtain rfl : args = #[v0, v1] := by cases args; simp_all
  obtain ⟨rfl, rfl⟩ := trodVars_none hV
  have k0 := h0
  have lt0 : ∀ x ∈ p0, x.block < W.heap.size := by obtain ⟨m, hm⟩ := k0; exact DataW.trod_lt m _ _ _ hm
  obtain ⟨a0, len0, cap0, rfl⟩ := okWide_slice Try.underlying60 (hval 0 60 v0 rfl rfl)
  obtain ⟨z0, w0⟩ : ∃ l, Views0 W a0 len0 cap0 l := by
    obtain ⟨fuel, hf⟩ := h0
    exact views_row (open_views hf) rfl
  have k1 := h1
  have lt1 : ∀ x ∈ p1, x.block < W.heap.size := by obtain ⟨m, hm⟩ := k1; exact DataW.trod_lt m _ _ _ hm
  obtain ⟨i1, c1, rfl, hi1, hc1⟩ := open_pid (hval 1 34 v1 rfl rfl) h1
  clear hA0 hval0
  refine (walk a0 len0 cap0 z0 i1 c1 W w0 hi1 hc1).mono fun e W' ⟨he, bel⟩ => ?_
  subst he
  exact ⟨_, rfl, _, _, _, [], _, [], hW', trodAll_mk1 (shut_bool Try.underlying4 _), (trodAll_cons_mk (Below.trod laidOut (by kernel_rfl) (of_decide_eq_true (by kernel_rfl)) k0 bel lt0) (trodAll_cons_mk (Below.trod laidOut (by kernel_rfl) (of_decide_eq_true (by kernel_rfl)) k1 bel lt1) trodAll_mk0)), rfl, bel.frame _, fun h => by cases h⟩

theorem over : Rows.viewLocalsRow.holds Try.pinned (OpenSpec.ofChange Rows.viewLocalsSpec) :=
  OpenClaim.holds_of_wide 8 Try.f8 rfl rfl rfl rfl rfl rfl rfl ⟨rfl, rfl, rfl, rfl, rfl⟩ rfl rfl rfl rfl rfl (by kernel_rfl) Try.func8 (by kernel_rfl)
    (of_decide_eq_true (by kernel_rfl)) (by unfold Func.isWrapper; first | (rw [if_pos (by decide +kernel)]; kernel_rfl) | (rw [if_neg (by decide +kernel)]; exact ⟨rfl, rfl⟩))
    (fun os started H enc _ => lifted os started H enc)

theorem proved : Rows.ViewLocalsSaid := over
#print axioms proved
end Go.Proofs.Ythloamhodapmpaa.viewLocals
