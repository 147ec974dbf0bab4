import Derived.Test.YtjmkecaljkcoiaaGreatDoorQOpenV
import Derived.Maps.Own
import Derived.Maps.OwnSet
import Derived.Maps.OwnOps
import Derived.DeepKeys4
import Derived.Maps.Keyed
import Derived.Test.YtjmkecaljkcoiaaGreatDoorQSortM
import Derived.Laws.AppendOwn
import Derived.Test.YtjmkecaljkcoiaaGreatDoorQOpenF
namespace Go.Proofs.YtjmkecaljkcoiaaGreatDoor
open Go.RowKit
set_option linter.unusedVariables false
set_option linter.unusedSimpArgs false
theorem NotIn.hit {p : Pr} {l : List Pr} {j : Nat} (h : NotIn p l j) (hj : j < l.length) (he : l[j] = p) : atI l p = (j : Int) := by
  have hm : p ∈ l := he ▸ List.getElem_mem hj
  rw [atI_in hm]
  have := plc_first hj (he ▸ h)
  rw [he] at this
  rw [this]
theorem NotIn.out_ {p : Pr} {l : List Pr} {j : Nat} (h : NotIn p l j) (hj : l.length ≤ j) : atI l p = -1 := by
  unfold NotIn at h
  rw [List.take_of_length_le hj] at h
  exact atI_no h
set_option maxRecDepth 100000 in
theorem index_any (A : Option Addr) (n c : Nat) (l : List Pr) (B : Nat) (p : Pr) (w : World) (hA : Es prC w B A n l) (hB : B ≤ w.heap.size) (hn : n ≤ maxLen) :
    Calls Tryz.prog 90 #[.slice A n c, .agg #[.int .u16 p.i, .int .u32 p.k]] w fun e w' => e = .returned (.int .i64 (atI l p)) ∧ Below w.heap.size w w' := by
  unfold maxLen at hn
  have hlen := hA.len
  have HL := hide hlen
  clear hlen
  obtain ⟨r, hr⟩ : ∃ r, r = atI l p := ⟨_, rfl⟩
  rw [← hr]
  have HR := hide hr
  clear hr
  have h0 := NotIn.start p l
  have hbz : Below w.heap.size w (w.alloc (.cells #[.int .u16 p.i, .int .u32 p.k] 44)) := (Below.refl _ _).alloc (Nat.le_refl _) _
  go_enter Tryz.func90, Tryz.ntmps90
  go_wp2
  go_loopw [8] (fun i wr => ∃ j : Nat, j ≤ n ∧ i = .int .i64 j ∧ NotIn p l j ∧ Drawn (w.alloc (.cells #[.int .u16 p.i, .int .u32 p.k] 44)) wr) (fun i _ => n - (intOf i).toNat)
  case atStart => exact ⟨0, Nat.zero_le _, rfl, h0, Drawn.refl _⟩
  case round =>
    obtain ⟨j, hj, rfl, hno, hd⟩ := hrel
    obtain ⟨n0, rfl⟩ := hd
    by_cases hlt : j < n
    · obtain ⟨ad, hl, rfl, hbl, hc⟩ := (hA.alloc hB (.cells #[.int .u16 p.i, .int .u32 p.k] 44)).at_ prOk hlt
      have hhit := hno.hit hl
      have hstep := hno.step hl
      obtain ⟨q, hq⟩ : ∃ q, q = l[j] := ⟨_, rfl⟩
      rw [← hq] at hc hhit hstep
      obtain ⟨c0, c1⟩ := pr_at hc
      clear hc hq
      have z1 : (0 : Int) ≤ (j : Int) := by omega
      have z2 : (j : Int) < (n : Int) := by omega
      by_cases hqi : q.i = p.i
      · by_cases hqk : q.k = p.k
        · have hin : r = (j : Int) := HR.out.trans (hhit (Pr.ext hqi hqk))
          have HI := hide hin
          rw [hqi] at c0
          rw [hqk] at c1
          clear hqi hqk hin hhit hstep
          go_wp2_with fail
          go_quiet (fail)
          go_wp2
          go_ret
          exact ⟨ret_int HI.out.symm, below_drewN (below_drewN hbz _) _⟩
        · have hst := hstep (fun e => hqk (by rw [e]))
          have q3 : ¬ ((p.k : Int) = (q.k : Int)) := by omega
          rw [hqi] at c0
          clear hqi hqk hhit hstep
          go_wp2_with fail
          go_quiet (fail)
          go_wp2
          go_roundw
          case rel => exact ⟨j + 1, by omega, by go_num, hst, (by first | exact drawn_one _ _ | exact drawn_two _ _ _)⟩
          case measure => simp [intOf]; omega
      · have hst := hstep (fun e => hqi (by rw [e]))
        have q3 : ¬ ((p.i : Int) = (q.i : Int)) := by omega
        clear hqi hhit hstep
        go_wp2_with fail
        go_quiet (fail)
        go_wp2
        go_roundw
        case rel => exact ⟨j + 1, by omega, by go_num, hst, (by first | exact drawn_one _ _ | exact drawn_two _ _ _)⟩
        case measure => simp [intOf]; omega
    · have hf := hno.out_ (by rw [HL.out]; omega)
      have HI := hide (HR.out.trans hf)
      clear hf
      go_wp2
      go_ret
      exact ⟨ret_int HI.out.symm, below_drewN hbz _⟩
set_option maxRecDepth 100000 in
theorem rat_any (A : Option Addr) (n c : Nat) (l : List Pr) (B : Nat) (p : Pr) (w : World) (hA : Es prC w B A n l) (hB : B ≤ w.heap.size) (hn : n ≤ maxLen) :
    Calls Tryz.prog 46 #[.slice A n c, .agg #[.int .u16 p.i, .int .u32 p.k]] w fun e w' => e = .returned (.int .i64 (atI l p)) ∧ Below w.heap.size w w' := by
  unfold maxLen at hn
  have hlen := hA.len
  have HL := hide hlen
  clear hlen
  obtain ⟨r, hr⟩ : ∃ r, r = atI l p := ⟨_, rfl⟩
  rw [← hr]
  have HR := hide hr
  clear hr
  have h0 := NotIn.start p l
  have hbz : Below w.heap.size w (w.alloc (.cells #[.int .u16 p.i, .int .u32 p.k] 44)) := (Below.refl _ _).alloc (Nat.le_refl _) _
  go_enter Tryz.func46, Tryz.ntmps46
  go_wp2
  go_loopw [5] (fun i wr => ∃ j : Nat, j ≤ n ∧ i = .int .i64 j ∧ NotIn p l j ∧ Drawn (w.alloc (.cells #[.int .u16 p.i, .int .u32 p.k] 44)) wr) (fun i _ => n - (intOf i).toNat)
  case atStart => exact ⟨0, Nat.zero_le _, rfl, h0, Drawn.refl _⟩
  case round =>
    obtain ⟨j, hj, rfl, hno, hd⟩ := hrel
    obtain ⟨n0, rfl⟩ := hd
    by_cases hlt : j < n
    · obtain ⟨ad, hl, rfl, hbl, hc⟩ := (hA.alloc hB (.cells #[.int .u16 p.i, .int .u32 p.k] 44)).at_ prOk hlt
      have hhit := hno.hit hl
      have hstep := hno.step hl
      obtain ⟨q, hq⟩ : ∃ q, q = l[j] := ⟨_, rfl⟩
      rw [← hq] at hc hhit hstep
      obtain ⟨c0, c1⟩ := pr_at hc
      clear hc hq
      have z1 : (0 : Int) ≤ (j : Int) := by omega
      have z2 : (j : Int) < (n : Int) := by omega
      by_cases hqi : q.i = p.i
      · by_cases hqk : q.k = p.k
        · have hin : r = (j : Int) := HR.out.trans (hhit (Pr.ext hqi hqk))
          have HI := hide hin
          rw [hqi] at c0
          rw [hqk] at c1
          clear hqi hqk hin hhit hstep
          go_wp2_with fail
          go_quiet (fail)
          go_wp2
          go_ret
          exact ⟨ret_int HI.out.symm, below_drewN (below_drewN hbz _) _⟩
        · have hst := hstep (fun e => hqk (by rw [e]))
          have q3 : ¬ ((q.k : Int) = (p.k : Int)) := by omega
          rw [hqi] at c0
          clear hqi hqk hhit hstep
          go_wp2_with fail
          go_quiet (fail)
          go_wp2
          go_roundw
          case rel => exact ⟨j + 1, by omega, by go_num, hst, (by first | exact drawn_one _ _ | exact drawn_two _ _ _)⟩
          case measure => simp [intOf]; omega
      · have hst := hstep (fun e => hqi (by rw [e]))
        have q3 : ¬ ((q.i : Int) = (p.i : Int)) := by omega
        clear hqi hhit hstep
        go_wp2_with fail
        go_quiet (fail)
        go_wp2
        go_roundw
        case rel => exact ⟨j + 1, by omega, by go_num, hst, (by first | exact drawn_one _ _ | exact drawn_two _ _ _)⟩
        case measure => simp [intOf]; omega
    · have hf := hno.out_ (by rw [HL.out]; omega)
      have HI := hide (HR.out.trans hf)
      clear hf
      go_wp2
      go_ret
      exact ⟨ret_int HI.out.symm, below_drewN hbz _⟩
set_option maxRecDepth 100000 in
theorem contains_any (A : Option Addr) (n c : Nat) (l : List Pr) (B : Nat) (p : Pr) (w : World) (hA : Es prC w B A n l) (hB : B ≤ w.heap.size) (hn : n ≤ maxLen) :
    Calls Tryz.prog 89 #[.slice A n c, .agg #[.int .u16 p.i, .int .u32 p.k]] w fun e w' => e = .returned (.bool (decide (p ∈ l))) ∧ Below w.heap.size w w' := by
  have hbz : Below w.heap.size w (w.alloc (.cells #[.int .u16 p.i, .int .u32 p.k] 44)) := (Below.refl _ _).alloc (Nat.le_refl _) _
  have hbB : Below B w (w.alloc (.cells #[.int .u16 p.i, .int .u32 p.k] 44)) := (Below.refl _ _).alloc hB _
  have c1 := index_any A n c l B p (w.alloc (.cells #[.int .u16 p.i, .int .u32 p.k] 44)) (hA.below hbB) (by simp; omega) hn
  have hp := atI_pos l p
  have ht := atI_lt l p
  have e : decide (p ∈ l) = decide (0 ≤ atI l p) := decide_eq_decide.2 hp.symm
  rw [e]
  generalize atI l p = r at *
  clear e hp
  go_enter Tryz.func89, Tryz.ntmps89
  go_wp2_with fail
  refine c1.mono ?_
  rintro e w1 ⟨rfl, hb⟩
  have hb1 := hbz.trans (hb.mono hbz.size)
  go_wp2
  go_ret
  exact ⟨rfl, hb1⟩
def mayP (p : Pr) : Bool := decide (p.i < 16) && decide (0 < p.k)
set_option maxRecDepth 100000 in
theorem may_any (p : Pr) (w : World) :
    Calls Tryz.prog 125 #[.agg #[.int .u16 p.i, .int .u32 p.k]] w fun e w' => e = .returned (.bool (mayP p)) ∧ Below w.heap.size w w' := by
  have hbz : Below w.heap.size w (w.alloc (.cells #[.int .u16 p.i, .int .u32 p.k] 44)) := (Below.refl _ _).alloc (Nat.le_refl _) _
  unfold mayP
  by_cases h : p.i < 16
  · have h1 : decide ((p.i : Int) < 16) = true := decide_eq_true (by omega)
    rw [decide_eq_true h]
    by_cases h' : p.k = 0
    · rw [show decide (0 < p.k) = false from decide_eq_false (by omega)]
      have h2 : ((p.k : Int) != 0) = false := by rw [h']; rfl
      clear h'
      go_enter Tryz.func125, Tryz.ntmps125
      go_wp2
      go_ret
      exact ⟨rfl, hbz⟩
    · rw [show decide (0 < p.k) = true from decide_eq_true (by omega)]
      have h2 : ((p.k : Int) != 0) = true := by simp only [bne_iff_ne, ne_eq]; omega
      go_enter Tryz.func125, Tryz.ntmps125
      go_wp2
      go_ret
      exact ⟨rfl, hbz⟩
  · have h1 : decide ((p.i : Int) < 16) = false := decide_eq_false (by omega)
    rw [decide_eq_false h]
    go_enter Tryz.func125, Tryz.ntmps125
    go_wp2
    go_ret
    exact ⟨rfl, hbz⟩
set_option maxRecDepth 100000 in
theorem rmay_any (p : Pr) (w : World) :
    Calls Tryz.prog 41 #[.agg #[.int .u16 p.i, .int .u32 p.k]] w fun e w' => e = .returned (.bool (mayP p)) ∧ Below w.heap.size w w' := by
  have hbz : Below w.heap.size w (w.alloc (.cells #[.int .u16 p.i, .int .u32 p.k] 44)) := (Below.refl _ _).alloc (Nat.le_refl _) _
  unfold mayP
  by_cases h : p.i < 16
  · have h1 : decide ((p.i : Int) < 16) = true := decide_eq_true (by omega)
    rw [decide_eq_true h]
    by_cases h' : 0 < p.k
    · rw [decide_eq_true h']
      have h2 : decide ((0 : Int) < (p.k : Int)) = true := decide_eq_true (by omega)
      go_enter Tryz.func41, Tryz.ntmps41
      go_wp2
      go_ret
      exact ⟨rfl, hbz⟩
    · rw [decide_eq_false h']
      have h2 : decide ((0 : Int) < (p.k : Int)) = false := decide_eq_false (by omega)
      go_enter Tryz.func41, Tryz.ntmps41
      go_wp2
      go_ret
      exact ⟨rfl, hbz⟩
  · have h1 : decide ((p.i : Int) < 16) = false := decide_eq_false (by omega)
    rw [decide_eq_false h]
    go_enter Tryz.func41, Tryz.ntmps41
    go_wp2
    go_ret
    exact ⟨rfl, hbz⟩
set_option maxRecDepth 100000 in
theorem leads_any (x : Vw) (p : Pr) (B : Nat) (w : World) (h : VwIn w B x) (hB : B ≤ w.heap.size) :
    Calls Tryz.prog 40 #[.agg #[.int .u64 x.id, .slice x.A x.m x.c, .slice x.B x.d x.e, .slice x.C x.f x.g], .agg #[.int .u16 p.i, .int .u32 p.k]] w fun e w' => e = .returned (.bool (decide (p ∈ x.r))) ∧ Below w.heap.size w w' := by
  obtain ⟨id, A, m, c, l, B', d, e, q, C, f, g, r⟩ := x
  have hbz : Below w.heap.size w ((w.alloc (.cells #[.int .u64 id, .slice A m c, .slice B' d e, .slice C f g] 26)).alloc (.cells #[.int .u16 p.i, .int .u32 p.k] 44)) := ((Below.refl _ _).alloc (Nat.le_refl _) _).alloc (by simp) _
  have hbB := hbz.mono hB
  have hr := Nat.le_trans h.fg h.room3
  have c1 := contains_any C f g r B p _ (h.dr.below hbB) (by simp; omega) hr
  clear h
  dsimp only at *
  generalize decide (p ∈ r) = t at *
  go_enter Tryz.func40, Tryz.ntmps40
  go_wp2_with fail
  refine c1.mono ?_
  rintro e w1 ⟨rfl, hb⟩
  have hb1 := hbz.trans (hb.mono hbz.size)
  go_wp2
  go_ret
  exact ⟨rfl, hb1⟩
end Go.Proofs.YtjmkecaljkcoiaaGreatDoor
namespace Go.Proofs.YtjmkecaljkcoiaaGreatDoor
open Go.RowKit Go.Maps
set_option linter.unusedVariables false
set_option linter.unusedSimpArgs false
theorem rowPid : (44 : TypeId) < Tryz.prog.types.size := of_decide_eq_true (by kernel_rfl)
theorem widePid : (match Tryz.prog.underlying 44 with | some (.array _ _) | some (.struct _) => true | _ => false) = true := by kernel_rfl
set_option maxRecDepth 100000 in
theorem lawPid : Keyed Tryz.prog 44 := Keyed.of_law (deep_law_laid laidOut (m := 3) (by omega) rowPid (by kernel_rfl) widePid)
def Pr.key (p : Pr) : Lit := .string (keyBytes [.int .u16 p.i, .int .u32 p.k])
theorem wf_pr16 (p : Pr) : (Lit.int .u16 p.i).wf = true := by
  have := p.hi
  simp [Lit.wf, IntKind.min, IntKind.max, IntKind.bits, IntKind.signed]; omega
theorem wf_pr32 (p : Pr) : (Lit.int .u32 p.k).wf = true := by
  have := p.hk
  simp [Lit.wf, IntKind.min, IntKind.max, IntKind.bits, IntKind.signed]; omega
theorem keyTypePid : Tryz.prog.keyType 44 = true := by kernel_rfl
theorem cellsPid : Tryz.prog.cellsOf 44 = 2 := by kernel_rfl
theorem cellsU16 : Tryz.prog.cellsOf 41 = 1 := by kernel_rfl
theorem cellsU32 : Tryz.prog.cellsOf 42 = 1 := by kernel_rfl
theorem nat_pos {n j : Nat} (h : j < n) : ∃ m, n = m + 1 := ⟨n - 1, by omega⟩
theorem typesPos : ∃ m, Tryz.prog.types.size = m + 1 := nat_pos rowPid
theorem key_pr (p : Pr) : keyOf Tryz.prog 44 (.agg #[.int .u16 p.i, .int .u32 p.k]) = some p.key := by
  obtain ⟨m, hm⟩ := typesPos
  have h1 := wf_pr16 p
  have h2 := wf_pr32 p
  unfold keyOf
  simp only [Tryz.underlying44]
  rw [if_pos (by simp [keyTypePid, Value.formed, Tryz.underlying44, cellsPid]), hm]
  unfold Program.keyLits
  simp [Tryz.underlying44, Value.cells, cellsPid, cellsU16, cellsU32, Program.keyLits, Tryz.underlying41, Tryz.underlying42, h1, h2, Pr.key]
theorem Pr.key_inj {p q : Pr} (h : p.key = q.key) : p = q := by
  have e := lawPid.inj (key_pr p) (by rw [h]; exact key_pr q)
  simp only [Value.agg.injEq, Array.mk.injEq, List.cons.injEq, Value.int.injEq, true_and, and_true] at e
  exact Pr.ext (by omega) (by omega)
def SetP (w : World) (b n : Nat) (acc : List Pr) : Prop := ∃ D : DataW Unit, w.ownsMap Tryz.prog 44 unitElem b n D ∧ ∀ p : Pr, Maps.has D p.key = decide (p ∈ acc)
theorem SetP.made (w : World) : SetP (w.alloc (.map #[] 0)) w.heap.size 0 [] := ⟨.map [], World.ownsMap_made _ _ _ _, fun p => by simp [Maps.has]⟩
theorem SetP.alloc {w : World} {b n : Nat} {acc : List Pr} (h : SetP w b n acc) (o : Obj) : SetP (w.alloc o) b n acc := by
  obtain ⟨D, h1, h2⟩ := h
  exact ⟨D, h1.alloc o, h2⟩
theorem zeroUnit (w : World) : (zeroValue 241).run Tryz.prog w = .ok (.agg #[]) w := by kernel_rfl
theorem SetP.put {w w' : World} {b n m : Nat} {acc : List Pr} {D : DataW Unit} {q : Pr} (hD : w.ownsMap Tryz.prog 44 unitElem b n D) (hh : ∀ p : Pr, Maps.has D p.key = decide (p ∈ acc)) (d : DataW Unit)
    (h' : w'.ownsMap Tryz.prog 44 unitElem b m (D.put q.key d)) : SetP w' b m (acc ++ [q]) := by
  refine ⟨_, h', fun p => ?_⟩
  by_cases e : p = q
  · subst e
    rw [has_put_same hD.isMap (lawPid.key (key_pr p)) d]
    simp
  · rw [has_put_other (fun e' => e (Pr.key_inj e')) d, hh p]
    simp [e]
theorem SetP.grown {w w' : World} {b n : Nat} {acc : List Pr} {row : Option Nat} (h : SetP w b n acc) (hg : w.grownBy w' row) (hne : some b ≠ row) : SetP w' b n acc := by
  obtain ⟨D, h1, h2⟩ := h
  exact ⟨D, h1.kept hg hne, h2⟩
theorem SetP.mono {w : World} {b n m : Nat} {acc : List Pr} (h : SetP w b n acc) (hn : n ≤ m) : SetP w b m acc := by
  obtain ⟨D, h1, h2⟩ := h
  exact ⟨D, h1.mono hn, h2⟩
end Go.Proofs.YtjmkecaljkcoiaaGreatDoor
namespace Go.Proofs.YtjmkecaljkcoiaaGreatDoor
open Go.RowKit
set_option linter.unusedVariables false
structure Turn (w w' : World) (b : Nat) (mg : Option Nat) : Prop where
  os : w'.os = w.os
  tape : w'.tape = w.tape
  output : w'.output = w.output
  size : w.heap.size ≤ w'.heap.size
  block : ∀ i, i < w.heap.size → i ≠ b → some i ≠ mg → w'.heap[i]? = w.heap[i]?
def Mov (w : World) (mg mg' : Option Nat) : Prop := mg' = mg ∨ ∃ g, mg' = some g ∧ w.heap.size ≤ g
section
variable {w w' w2 : World} {b g : Nat} {mg mg' mg2 : Option Nat}
theorem Turn.refl (w : World) (b : Nat) (mg : Option Nat) : Turn w w b mg := ⟨rfl, rfl, rfl, Nat.le_refl _, fun _ _ _ _ => rfl⟩
theorem Turn.of_below (h : Below w.heap.size w w') (b : Nat) (mg : Option Nat) : Turn w w' b mg := ⟨h.os, h.tape, h.output, h.size, fun i hi _ _ => h.block i hi⟩
theorem Turn.of_grown {row : Option Nat} (h : w.grownBy w' row) (hr : ∀ i, row = some i → i = b ∨ some i = mg ∨ w.heap.size ≤ i) : Turn w w' b mg :=
  ⟨h.os, h.tape, h.output, h.size, fun i hi h1 h2 => h.block i hi fun e => by
    rcases hr i e.symm with h | h | h
    · exact h1 h
    · exact h2 h
    · omega⟩
theorem Turn.trans (h : Turn w w' b mg) (k : Turn w' w2 b mg') (hm : Mov w mg mg') : Turn w w2 b mg :=
  ⟨k.os.trans h.os, k.tape.trans h.tape, k.output.trans h.output, Nat.le_trans h.size k.size, fun i hi h1 h2 => (k.block i (Nat.lt_of_lt_of_le hi h.size) h1 fun e => by
    rcases hm with rfl | ⟨g, rfl, hg⟩
    · exact h2 e
    · injection e with e; omega).trans (h.block i hi h1 h2)⟩
theorem Mov.refl (w : World) (mg : Option Nat) : Mov w mg mg := .inl rfl
theorem Mov.trans (h : Mov w mg mg') (k : Mov w' mg' mg2) (hs : w.heap.size ≤ w'.heap.size) : Mov w mg mg2 := by
  rcases k with rfl | ⟨g, rfl, hg⟩
  · exact h
  · exact .inr ⟨g, rfl, by omega⟩
theorem Mov.base {base : Nat} (h : Mov w mg mg') (hm : ∀ g, mg = some g → base ≤ g) (hb : base ≤ w.heap.size) : ∀ g, mg' = some g → base ≤ g := by
  intro g hg
  rcases h with rfl | ⟨g', rfl, hg'⟩
  · exact hm g hg
  · injection hg with e; omega
theorem Turn.below {B : Nat} (h : Turn w w' b mg) (hB : B ≤ w.heap.size) (hb : B ≤ b) (hm : ∀ g, mg = some g → B ≤ g) : Below B w w' :=
  ⟨h.os, h.tape, h.output, h.size, fun i hi => h.block i (by omega) (by omega) fun e => by have := hm i e.symm; omega⟩
theorem Turn.set_ (h : Turn w w' b mg) {p : Addr} (hp : p.block = b) (u : Value) : Turn w (w'.setCell p u) b mg :=
  ⟨h.os, h.tape, h.output, Nat.le_trans h.size (by simp), fun i hi h1 h2 => (Below.heap_setCell w' p u i (by rw [hp]; exact h1)).trans (h.block i hi h1 h2)⟩
theorem Turn.alloc (h : Turn w w' b mg) (o : Obj) : Turn w (w'.alloc o) b mg :=
  ⟨h.os, h.tape, h.output, Nat.le_trans h.size (by simp), fun i hi h1 h2 => (Below.heap_alloc w' o i (Nat.lt_of_lt_of_le hi h.size)).trans (h.block i hi h1 h2)⟩
theorem Turn.drew (h : Turn w w' b mg) : Turn w w'.drew b mg := ⟨h.os, h.tape, h.output, h.size, h.block⟩
theorem Turn.later (h : Turn w w' b mg) (k : Below w'.heap.size w' w2) : Turn w w2 b mg :=
  ⟨k.os.trans h.os, k.tape.trans h.tape, k.output.trans h.output, Nat.le_trans h.size k.size, fun i hi h1 h2 => (k.block i (Nat.lt_of_lt_of_le hi h.size)).trans (h.block i hi h1 h2)⟩
theorem Turn.ahead (h : Below w.heap.size w w') (k : Turn w' w2 b mg) : Turn w w2 b mg :=
  ⟨k.os.trans h.os, k.tape.trans h.tape, k.output.trans h.output, Nat.le_trans h.size k.size, fun i hi h1 h2 => (k.block i (Nat.lt_of_lt_of_le hi h.size) h1 h2).trans (h.block i hi)⟩
theorem Turn.cell (h : Turn w w' b mg) {p : Addr} {v : Value} (hc : w.cell? p = some v) (h1 : p.block ≠ b) (h2 : some p.block ≠ mg) : w'.cell? p = some v :=
  (World.cell?_of_block (h.block p.block (World.block_lt_of_cell? w p hc) h1 h2)).trans hc
end
end Go.Proofs.YtjmkecaljkcoiaaGreatDoor
