import Derived.Test.YtjmkecaljkcoiaaDoorQOpenV
import Derived.Maps.Own
import Derived.Maps.OwnSet
import Derived.Maps.OwnOps
import Derived.DeepKeys4
import Derived.Maps.Keyed
import Derived.Test.YtjmkecaljkcoiaaDoorQPr
namespace Go.Proofs.YtjmkecaljkcoiaaDoor
open Go.RowKit
set_option linter.unusedVariables false
set_option linter.unusedSimpArgs false
theorem NotIn.hit {p : Pr} {l : List Pr} {j : Nat} (h : NotIn p l j) (hj : j < l.length) (he : l[j] = p) : atI l p = (j : Int) := by
  have hm : p ∈ l := he ▸ List.getElem_mem hj
  rw [atI_in hm]
  have := plc_first hj (he ▸ h)
  rw [he] at this
  rw [this]
theorem NotIn.out_ {p : Pr} {l : List Pr} {j : Nat} (h : NotIn p l j) (hj : l.length ≤ j) : atI l p = -1 := by
  unfold NotIn at h
  rw [List.take_of_length_le hj] at h
  exact atI_no h
set_option maxRecDepth 100000 in
theorem rat_any (A : Option Addr) (n c : Nat) (l : List Pr) (B : Nat) (p : Pr) (w : World) (hA : Es prC w B A n l) (hB : B ≤ w.heap.size) (hn : n ≤ maxLen) :
    Calls Tryd.prog 108 #[.slice A n c, .agg #[.int .u16 (p.i : Int), .int .u32 (p.k : Int)]] w fun e w' => e = .returned (.int .i64 (atI l p)) ∧ Below w.heap.size w w' := by
  unfold maxLen at hn
  have hlen := hA.len
  have HL := hide hlen
  clear hlen
  obtain ⟨r, hr⟩ : ∃ r, r = atI l p := ⟨_, rfl⟩
  rw [← hr]
  have HR := hide hr
  clear hr
  have h0 := NotIn.start p l
  have hbz : Below w.heap.size w (w.alloc (.cells #[.int .u16 (p.i : Int), .int .u32 (p.k : Int)] 25)) := (Below.refl _ _).alloc (Nat.le_refl _) _
  go_enter Tryd.func108, Tryd.ntmps108
  go_wp2
  go_loopw [5] (fun i wr => ∃ j : Nat, j ≤ n ∧ i = .int .i64 j ∧ NotIn p l j ∧ Drawn (w.alloc (.cells #[.int .u16 (p.i : Int), .int .u32 (p.k : Int)] 25)) wr) (fun i _ => n - (intOf i).toNat)
  case atStart => exact ⟨0, Nat.zero_le _, rfl, h0, Drawn.refl _⟩
  case round =>
    obtain ⟨j, hj, rfl, hno, hd⟩ := hrel
    obtain ⟨n0, rfl⟩ := hd
    by_cases hlt : j < n
    · obtain ⟨ad, hl, rfl, hbl, hc⟩ := (hA.alloc hB (.cells #[.int .u16 (p.i : Int), .int .u32 (p.k : Int)] 25)).at_ prOk hlt
      have hhit := hno.hit hl
      have hstep := hno.step hl
      obtain ⟨q, hq⟩ : ∃ q, q = l[j] := ⟨_, rfl⟩
      rw [← hq] at hc hhit hstep
      obtain ⟨c0, c1⟩ := pr_at hc
      clear hc hq
      have z1 : (0 : Int) ≤ (j : Int) := by omega
      have z2 : (j : Int) < (n : Int) := by omega
      by_cases hqi : q.i = p.i
      · by_cases hqk : q.k = p.k
        · have hin : r = (j : Int) := HR.out.trans (hhit (Pr.ext hqi hqk))
          have HI := hide hin
          rw [hqi] at c0
          rw [hqk] at c1
          clear hqi hqk hin hhit hstep
          go_wp2_with fail
          go_quiet (fail)
          go_wp2
          go_ret
          exact ⟨ret_int HI.out.symm, below_drewN (below_drewN hbz _) _⟩
        · have hst := hstep (fun e => hqk (by rw [e]))
          have q3 : ¬ ((q.k : Int) = (p.k : Int)) := by omega
          rw [hqi] at c0
          clear hqi hqk hhit hstep
          go_wp2_with fail
          go_quiet (fail)
          go_wp2
          go_roundw
          case rel => exact ⟨j + 1, by omega, by go_num, hst, (by first | exact drawn_one _ _ | exact drawn_two _ _ _)⟩
          case measure => simp [intOf]; omega
      · have hst := hstep (fun e => hqi (by rw [e]))
        have q3 : ¬ ((q.i : Int) = (p.i : Int)) := by omega
        clear hqi hhit hstep
        go_wp2_with fail
        go_quiet (fail)
        go_wp2
        go_roundw
        case rel => exact ⟨j + 1, by omega, by go_num, hst, (by first | exact drawn_one _ _ | exact drawn_two _ _ _)⟩
        case measure => simp [intOf]; omega
    · have hf := hno.out_ (by rw [HL.out]; omega)
      have HI := hide (HR.out.trans hf)
      clear hf
      go_wp2
      go_ret
      exact ⟨ret_int HI.out.symm, below_drewN hbz _⟩
def mayP (p : Pr) : Bool := decide (p.i < 16) && decide (0 < p.k)
set_option maxRecDepth 100000 in
theorem may_any (p : Pr) (w : World) :
    Calls Tryd.prog 76 #[.agg #[.int .u16 (p.i : Int), .int .u32 (p.k : Int)]] w fun e w' => e = .returned (.bool (mayP p)) ∧ Below w.heap.size w w' := by
  have hbz : Below w.heap.size w (w.alloc (.cells #[.int .u16 (p.i : Int), .int .u32 (p.k : Int)] 25)) := (Below.refl _ _).alloc (Nat.le_refl _) _
  unfold mayP
  by_cases h : p.i < 16
  · have h1 : decide ((p.i : Int) < 16) = true := decide_eq_true (by omega)
    rw [decide_eq_true h]
    by_cases h' : p.k = 0
    · rw [show decide (0 < p.k) = false from decide_eq_false (by omega)]
      have h2 : ((p.k : Int) != 0) = false := by rw [h']; rfl
      clear h'
      go_enter Tryd.func76, Tryd.ntmps76
      go_wp2
      go_ret
      exact ⟨rfl, hbz⟩
    · rw [show decide (0 < p.k) = true from decide_eq_true (by omega)]
      have h2 : ((p.k : Int) != 0) = true := by simp only [bne_iff_ne, ne_eq]; omega
      go_enter Tryd.func76, Tryd.ntmps76
      go_wp2
      go_ret
      exact ⟨rfl, hbz⟩
  · have h1 : decide ((p.i : Int) < 16) = false := decide_eq_false (by omega)
    rw [decide_eq_false h]
    go_enter Tryd.func76, Tryd.ntmps76
    go_wp2
    go_ret
    exact ⟨rfl, hbz⟩
set_option maxRecDepth 100000 in
theorem rmay_any (p : Pr) (w : World) :
    Calls Tryd.prog 30 #[.agg #[.int .u16 (p.i : Int), .int .u32 (p.k : Int)]] w fun e w' => e = .returned (.bool (mayP p)) ∧ Below w.heap.size w w' := by
  have hbz : Below w.heap.size w (w.alloc (.cells #[.int .u16 (p.i : Int), .int .u32 (p.k : Int)] 25)) := (Below.refl _ _).alloc (Nat.le_refl _) _
  unfold mayP
  by_cases h : p.i < 16
  · have h1 : decide ((p.i : Int) < 16) = true := decide_eq_true (by omega)
    rw [decide_eq_true h]
    by_cases h' : 0 < p.k
    · rw [decide_eq_true h']
      have h2 : decide ((0 : Int) < (p.k : Int)) = true := decide_eq_true (by omega)
      go_enter Tryd.func30, Tryd.ntmps30
      go_wp2
      go_ret
      exact ⟨rfl, hbz⟩
    · rw [decide_eq_false h']
      have h2 : decide ((0 : Int) < (p.k : Int)) = false := decide_eq_false (by omega)
      go_enter Tryd.func30, Tryd.ntmps30
      go_wp2
      go_ret
      exact ⟨rfl, hbz⟩
  · have h1 : decide ((p.i : Int) < 16) = false := decide_eq_false (by omega)
    rw [decide_eq_false h]
    go_enter Tryd.func30, Tryd.ntmps30
    go_wp2
    go_ret
    exact ⟨rfl, hbz⟩
end Go.Proofs.YtjmkecaljkcoiaaDoor
namespace Go.Proofs.YtjmkecaljkcoiaaDoor
open Go.RowKit Go.Maps
set_option linter.unusedVariables false
set_option linter.unusedSimpArgs false
theorem rowPid : (25 : TypeId) < Tryd.prog.types.size := of_decide_eq_true (by kernel_rfl)
theorem widePid : (match Tryd.prog.underlying 25 with | some (.array _ _) | some (.struct _) => true | _ => false) = true := by kernel_rfl
set_option maxRecDepth 100000 in
theorem lawPid : Keyed Tryd.prog 25 := Keyed.of_law (deep_law_laid laidOut (m := 3) (by omega) rowPid (by kernel_rfl) widePid)
def Pr.key (p : Pr) : Lit := .string (keyBytes [.int .u16 (p.i : Int), .int .u32 (p.k : Int)])
theorem wf_pr16 (p : Pr) : (Lit.int .u16 (p.i : Int)).wf = true := by
  have := p.hi
  simp [Lit.wf, IntKind.min, IntKind.max, IntKind.bits, IntKind.signed]; omega
theorem wf_pr32 (p : Pr) : (Lit.int .u32 (p.k : Int)).wf = true := by
  have := p.hk
  simp [Lit.wf, IntKind.min, IntKind.max, IntKind.bits, IntKind.signed]; omega
theorem keyTypePid : Tryd.prog.keyType 25 = true := by kernel_rfl
theorem cellsPid : Tryd.prog.cellsOf 25 = 2 := by kernel_rfl
theorem cellsU16 : Tryd.prog.cellsOf 22 = 1 := by kernel_rfl
theorem cellsU32 : Tryd.prog.cellsOf 23 = 1 := by kernel_rfl
theorem nat_pos {n j : Nat} (h : j < n) : ∃ m, n = m + 1 := ⟨n - 1, by omega⟩
theorem typesPos : ∃ m, Tryd.prog.types.size = m + 1 := nat_pos rowPid
theorem key_pr (p : Pr) : keyOf Tryd.prog 25 (.agg #[.int .u16 (p.i : Int), .int .u32 (p.k : Int)]) = some p.key := by
  obtain ⟨m, hm⟩ := typesPos
  have h1 := wf_pr16 p
  have h2 := wf_pr32 p
  unfold keyOf
  simp only [Tryd.underlying25]
  rw [if_pos (by simp [keyTypePid, Value.formed, Tryd.underlying25, cellsPid]), hm]
  unfold Program.keyLits
  simp [Tryd.underlying25, Value.cells, cellsPid, cellsU16, cellsU32, Program.keyLits, Tryd.underlying22, Tryd.underlying23, h1, h2, Pr.key]
theorem Pr.key_inj {p q : Pr} (h : p.key = q.key) : p = q := by
  have e := lawPid.inj (key_pr p) (by rw [h]; exact key_pr q)
  simp only [Value.agg.injEq, Array.mk.injEq, List.cons.injEq, Value.int.injEq, true_and, and_true] at e
  exact Pr.ext (by omega) (by omega)
def SetP (w : World) (b n : Nat) (acc : List Pr) : Prop := ∃ D : DataW Unit, w.ownsMap Tryd.prog 25 unitElem b n D ∧ ∀ p : Pr, Maps.has D p.key = decide (p ∈ acc)
theorem SetP.made (w : World) : SetP (w.alloc (.map #[] 0)) w.heap.size 0 [] := ⟨.map [], World.ownsMap_made _ _ _ _, fun p => by simp [Maps.has]⟩
theorem SetP.alloc {w : World} {b n : Nat} {acc : List Pr} (h : SetP w b n acc) (o : Obj) : SetP (w.alloc o) b n acc := by
  obtain ⟨D, h1, h2⟩ := h
  exact ⟨D, h1.alloc o, h2⟩
theorem SetP.put {w w' : World} {b n m : Nat} {acc : List Pr} {D : DataW Unit} {q : Pr} (hD : w.ownsMap Tryd.prog 25 unitElem b n D) (hh : ∀ p : Pr, Maps.has D p.key = decide (p ∈ acc)) (d : DataW Unit)
    (h' : w'.ownsMap Tryd.prog 25 unitElem b m (D.put q.key d)) : SetP w' b m (acc ++ [q]) := by
  refine ⟨_, h', fun p => ?_⟩
  by_cases e : p = q
  · subst e
    rw [has_put_same hD.isMap (lawPid.key (key_pr p)) d]
    simp
  · rw [has_put_other (fun e' => e (Pr.key_inj e')) d, hh p]
    simp [e]
theorem SetP.grown {w w' : World} {b n : Nat} {acc : List Pr} {row : Option Nat} (h : SetP w b n acc) (hg : w.grownBy w' row) (hne : some b ≠ row) : SetP w' b n acc := by
  obtain ⟨D, h1, h2⟩ := h
  exact ⟨D, h1.kept hg hne, h2⟩
theorem SetP.mono {w : World} {b n m : Nat} {acc : List Pr} (h : SetP w b n acc) (hn : n ≤ m) : SetP w b m acc := by
  obtain ⟨D, h1, h2⟩ := h
  exact ⟨D, h1.mono hn, h2⟩
end Go.Proofs.YtjmkecaljkcoiaaDoor
