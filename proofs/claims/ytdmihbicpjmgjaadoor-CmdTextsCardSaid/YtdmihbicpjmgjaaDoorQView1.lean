/-
  Layer 8: places in lists (slices.Index, slices.Contains, the document's At), who may be, ranks, leaders.
-/
import Derived.Test.YtdmihbicpjmgjaaDoorQOpenV
namespace Go.Proofs.YtdmihbicpjmgjaaDoor
open Go.RowKit
set_option linter.unusedVariables false
set_option linter.unusedSimpArgs false

theorem NotIn.hit {p : Pr} {l : List Pr} {j : Nat} (h : NotIn p l j) (hj : j < l.length) (he : l[j] = p) : atI l p = (j : Int) := by
  have hm : p ∈ l := he ▸ List.getElem_mem hj
  rw [atI_in hm]
  have := plc_first hj (he ▸ h)
  rw [he] at this
  rw [this]
theorem NotIn.out_ {p : Pr} {l : List Pr} {j : Nat} (h : NotIn p l j) (hj : l.length ≤ j) : atI l p = -1 := by
  unfold NotIn at h
  rw [List.take_of_length_le hj] at h
  exact atI_no h
set_option maxRecDepth 100000 in
theorem index_any (A : Option Addr) (n c : Nat) (l : List Pr) (B : Nat) (p : Pr) (w : World) (hA : Es prC w B A n l) (hB : B ≤ w.heap.size) (hn : n ≤ maxLen) :
    Calls Tryd.prog 75 #[.slice A n c, .agg #[.int .u16 (p.i : Int), .int .u32 (p.k : Int)]] w fun e w' => e = .returned (.int .i64 (atI l p)) ∧ Below w.heap.size w w' := by
  unfold maxLen at hn
  have hlen := hA.len
  have HL := hide hlen
  clear hlen
  obtain ⟨r, hr⟩ : ∃ r, r = atI l p := ⟨_, rfl⟩
  rw [← hr]
  have HR := hide hr
  clear hr
  have h0 := NotIn.start p l
  have hbz : Below w.heap.size w (w.alloc (.cells #[.int .u16 (p.i : Int), .int .u32 (p.k : Int)] 25)) := (Below.refl _ _).alloc (Nat.le_refl _) _
  go_enter Tryd.func75, Tryd.ntmps75
  go_wp2
  go_loopw [8] (fun i wr => ∃ j : Nat, j ≤ n ∧ i = .int .i64 j ∧ NotIn p l j ∧ Drawn (w.alloc (.cells #[.int .u16 (p.i : Int), .int .u32 (p.k : Int)] 25)) wr) (fun i _ => n - (intOf i).toNat)
  case atStart => exact ⟨0, Nat.zero_le _, rfl, h0, Drawn.refl _⟩
  case round =>
    obtain ⟨j, hj, rfl, hno, hd⟩ := hrel
    obtain ⟨n0, rfl⟩ := hd
    by_cases hlt : j < n
    · obtain ⟨ad, hl, rfl, hbl, hc⟩ := (hA.alloc hB (.cells #[.int .u16 (p.i : Int), .int .u32 (p.k : Int)] 25)).at_ prOk hlt
      have hhit := hno.hit hl
      have hstep := hno.step hl
      obtain ⟨q, hq⟩ : ∃ q, q = l[j] := ⟨_, rfl⟩
      rw [← hq] at hc hhit hstep
      obtain ⟨c0, c1⟩ := pr_at hc
      clear hc hq
      have z1 : (0 : Int) ≤ (j : Int) := by omega
      have z2 : (j : Int) < (n : Int) := by omega
      by_cases hqi : q.i = p.i
      · by_cases hqk : q.k = p.k
        · have hin : r = (j : Int) := HR.out.trans (hhit (Pr.ext hqi hqk))
          have HI := hide hin
          rw [hqi] at c0
          rw [hqk] at c1
          clear hqi hqk hin hhit hstep
          go_wp2_with fail
          go_quiet (fail)
          go_wp2
          go_ret
          exact ⟨ret_int HI.out.symm, below_drewN (below_drewN hbz _) _⟩
        · have hst := hstep (fun e => hqk (by rw [e]))
          have q3 : ¬ ((p.k : Int) = (q.k : Int)) := by omega
          rw [hqi] at c0
          clear hqi hqk hhit hstep
          go_wp2_with fail
          go_quiet (fail)
          go_wp2
          go_roundw
          case rel => exact ⟨j + 1, by omega, by go_num, hst, (by first | exact drawn_one _ _ | exact drawn_two _ _ _)⟩
          case measure => simp [intOf]; omega
      · have hst := hstep (fun e => hqi (by rw [e]))
        have q3 : ¬ ((p.i : Int) = (q.i : Int)) := by omega
        clear hqi hhit hstep
        go_wp2_with fail
        go_quiet (fail)
        go_wp2
        go_roundw
        case rel => exact ⟨j + 1, by omega, by go_num, hst, (by first | exact drawn_one _ _ | exact drawn_two _ _ _)⟩
        case measure => simp [intOf]; omega
    · have hf := hno.out_ (by rw [HL.out]; omega)
      have HI := hide (HR.out.trans hf)
      clear hf
      go_wp2
      go_ret
      exact ⟨ret_int HI.out.symm, below_drewN hbz _⟩
set_option maxRecDepth 100000 in
theorem rat_any (A : Option Addr) (n c : Nat) (l : List Pr) (B : Nat) (p : Pr) (w : World) (hA : Es prC w B A n l) (hB : B ≤ w.heap.size) (hn : n ≤ maxLen) :
    Calls Tryd.prog 39 #[.slice A n c, .agg #[.int .u16 (p.i : Int), .int .u32 (p.k : Int)]] w fun e w' => e = .returned (.int .i64 (atI l p)) ∧ Below w.heap.size w w' := by
  unfold maxLen at hn
  have hlen := hA.len
  have HL := hide hlen
  clear hlen
  obtain ⟨r, hr⟩ : ∃ r, r = atI l p := ⟨_, rfl⟩
  rw [← hr]
  have HR := hide hr
  clear hr
  have h0 := NotIn.start p l
  have hbz : Below w.heap.size w (w.alloc (.cells #[.int .u16 (p.i : Int), .int .u32 (p.k : Int)] 25)) := (Below.refl _ _).alloc (Nat.le_refl _) _
  go_enter Tryd.func39, Tryd.ntmps39
  go_wp2
  go_loopw [5] (fun i wr => ∃ j : Nat, j ≤ n ∧ i = .int .i64 j ∧ NotIn p l j ∧ Drawn (w.alloc (.cells #[.int .u16 (p.i : Int), .int .u32 (p.k : Int)] 25)) wr) (fun i _ => n - (intOf i).toNat)
  case atStart => exact ⟨0, Nat.zero_le _, rfl, h0, Drawn.refl _⟩
  case round =>
    obtain ⟨j, hj, rfl, hno, hd⟩ := hrel
    obtain ⟨n0, rfl⟩ := hd
    by_cases hlt : j < n
    · obtain ⟨ad, hl, rfl, hbl, hc⟩ := (hA.alloc hB (.cells #[.int .u16 (p.i : Int), .int .u32 (p.k : Int)] 25)).at_ prOk hlt
      have hhit := hno.hit hl
      have hstep := hno.step hl
      obtain ⟨q, hq⟩ : ∃ q, q = l[j] := ⟨_, rfl⟩
      rw [← hq] at hc hhit hstep
      obtain ⟨c0, c1⟩ := pr_at hc
      clear hc hq
      have z1 : (0 : Int) ≤ (j : Int) := by omega
      have z2 : (j : Int) < (n : Int) := by omega
      by_cases hqi : q.i = p.i
      · by_cases hqk : q.k = p.k
        · have hin : r = (j : Int) := HR.out.trans (hhit (Pr.ext hqi hqk))
          have HI := hide hin
          rw [hqi] at c0
          rw [hqk] at c1
          clear hqi hqk hin hhit hstep
          go_wp2_with fail
          go_quiet (fail)
          go_wp2
          go_ret
          exact ⟨ret_int HI.out.symm, below_drewN (below_drewN hbz _) _⟩
        · have hst := hstep (fun e => hqk (by rw [e]))
          have q3 : ¬ ((q.k : Int) = (p.k : Int)) := by omega
          rw [hqi] at c0
          clear hqi hqk hhit hstep
          go_wp2_with fail
          go_quiet (fail)
          go_wp2
          go_roundw
          case rel => exact ⟨j + 1, by omega, by go_num, hst, (by first | exact drawn_one _ _ | exact drawn_two _ _ _)⟩
          case measure => simp [intOf]; omega
      · have hst := hstep (fun e => hqi (by rw [e]))
        have q3 : ¬ ((q.i : Int) = (p.i : Int)) := by omega
        clear hqi hhit hstep
        go_wp2_with fail
        go_quiet (fail)
        go_wp2
        go_roundw
        case rel => exact ⟨j + 1, by omega, by go_num, hst, (by first | exact drawn_one _ _ | exact drawn_two _ _ _)⟩
        case measure => simp [intOf]; omega
    · have hf := hno.out_ (by rw [HL.out]; omega)
      have HI := hide (HR.out.trans hf)
      clear hf
      go_wp2
      go_ret
      exact ⟨ret_int HI.out.symm, below_drewN hbz _⟩
set_option maxRecDepth 100000 in
theorem contains_any (A : Option Addr) (n c : Nat) (l : List Pr) (B : Nat) (p : Pr) (w : World) (hA : Es prC w B A n l) (hB : B ≤ w.heap.size) (hn : n ≤ maxLen) :
    Calls Tryd.prog 58 #[.slice A n c, .agg #[.int .u16 (p.i : Int), .int .u32 (p.k : Int)]] w fun e w' => e = .returned (.bool (decide (p ∈ l))) ∧ Below w.heap.size w w' := by
  have hbz : Below w.heap.size w (w.alloc (.cells #[.int .u16 (p.i : Int), .int .u32 (p.k : Int)] 25)) := (Below.refl _ _).alloc (Nat.le_refl _) _
  have hbB : Below B w (w.alloc (.cells #[.int .u16 (p.i : Int), .int .u32 (p.k : Int)] 25)) := (Below.refl _ _).alloc hB _
  have c1 := index_any A n c l B p (w.alloc (.cells #[.int .u16 (p.i : Int), .int .u32 (p.k : Int)] 25)) (hA.below hbB) (by simp; omega) hn
  have hp := atI_pos l p
  have ht := atI_lt l p
  have e : decide (p ∈ l) = decide (0 ≤ atI l p) := decide_eq_decide.2 hp.symm
  rw [e]
  generalize atI l p = r at *
  clear e hp
  go_enter Tryd.func58, Tryd.ntmps58
  go_wp2_with fail
  refine c1.mono ?_
  rintro e w1 ⟨rfl, hb⟩
  have hb1 := hbz.trans (hb.mono hbz.size)
  go_wp2
  go_ret
  exact ⟨rfl, hb1⟩
/-- May a process be? -/
def mayP (p : Pr) : Bool := decide (p.i < 16) && decide (0 < p.k)
set_option maxRecDepth 100000 in
theorem may_any (p : Pr) (w : World) :
    Calls Tryd.prog 48 #[.agg #[.int .u16 (p.i : Int), .int .u32 (p.k : Int)]] w fun e w' => e = .returned (.bool (mayP p)) ∧ Below w.heap.size w w' := by
  have hbz : Below w.heap.size w (w.alloc (.cells #[.int .u16 (p.i : Int), .int .u32 (p.k : Int)] 25)) := (Below.refl _ _).alloc (Nat.le_refl _) _
  unfold mayP
  by_cases h : p.i < 16
  · have h1 : decide ((p.i : Int) < 16) = true := decide_eq_true (by omega)
    rw [decide_eq_true h]
    by_cases h' : p.k = 0
    · rw [show decide (0 < p.k) = false from decide_eq_false (by omega)]
      have h2 : ((p.k : Int) != 0) = false := by rw [h']; rfl
      clear h'
      go_enter Tryd.func48, Tryd.ntmps48
      go_wp2
      go_ret
      exact ⟨rfl, hbz⟩
    · rw [show decide (0 < p.k) = true from decide_eq_true (by omega)]
      have h2 : ((p.k : Int) != 0) = true := by simp only [bne_iff_ne, ne_eq]; omega
      go_enter Tryd.func48, Tryd.ntmps48
      go_wp2
      go_ret
      exact ⟨rfl, hbz⟩
  · have h1 : decide ((p.i : Int) < 16) = false := decide_eq_false (by omega)
    rw [decide_eq_false h]
    go_enter Tryd.func48, Tryd.ntmps48
    go_wp2
    go_ret
    exact ⟨rfl, hbz⟩
set_option maxRecDepth 100000 in
theorem rmay_any (p : Pr) (w : World) :
    Calls Tryd.prog 35 #[.agg #[.int .u16 (p.i : Int), .int .u32 (p.k : Int)]] w fun e w' => e = .returned (.bool (mayP p)) ∧ Below w.heap.size w w' := by
  have hbz : Below w.heap.size w (w.alloc (.cells #[.int .u16 (p.i : Int), .int .u32 (p.k : Int)] 25)) := (Below.refl _ _).alloc (Nat.le_refl _) _
  unfold mayP
  by_cases h : p.i < 16
  · have h1 : decide ((p.i : Int) < 16) = true := decide_eq_true (by omega)
    rw [decide_eq_true h]
    by_cases h' : 0 < p.k
    · rw [decide_eq_true h']
      have h2 : decide ((0 : Int) < (p.k : Int)) = true := decide_eq_true (by omega)
      go_enter Tryd.func35, Tryd.ntmps35
      go_wp2
      go_ret
      exact ⟨rfl, hbz⟩
    · rw [decide_eq_false h']
      have h2 : decide ((0 : Int) < (p.k : Int)) = false := decide_eq_false (by omega)
      go_enter Tryd.func35, Tryd.ntmps35
      go_wp2
      go_ret
      exact ⟨rfl, hbz⟩
  · have h1 : decide ((p.i : Int) < 16) = false := decide_eq_false (by omega)
    rw [decide_eq_false h]
    go_enter Tryd.func35, Tryd.ntmps35
    go_wp2
    go_ret
    exact ⟨rfl, hbz⟩
set_option maxRecDepth 100000 in
theorem leads_any (x : Vw) (p : Pr) (B : Nat) (w : World) (h : VwIn w B x) (hB : B ≤ w.heap.size) :
    Calls Tryd.prog 34 #[.agg #[.int .u64 (x.id : Int), .slice x.A x.m x.c, .slice x.B x.d x.e, .slice x.C x.f x.g], .agg #[.int .u16 (p.i : Int), .int .u32 (p.k : Int)]] w fun e w' => e = .returned (.bool (decide (p ∈ x.r))) ∧ Below w.heap.size w w' := by
  obtain ⟨id, A, m, c, l, B', d, e, q, C, f, g, r⟩ := x
  have hbz : Below w.heap.size w ((w.alloc (.cells #[.int .u64 (id : Int), .slice A m c, .slice B' d e, .slice C f g] 31)).alloc (.cells #[.int .u16 (p.i : Int), .int .u32 (p.k : Int)] 25)) := ((Below.refl _ _).alloc (Nat.le_refl _) _).alloc (by simp) _
  have hbB := hbz.mono hB
  have hr := Nat.le_trans h.fg h.room3
  have c1 := contains_any C f g r B p _ (h.dr.below hbB) (by simp; omega) hr
  clear h
  dsimp only at *
  generalize decide (p ∈ r) = t at *
  go_enter Tryd.func34, Tryd.ntmps34
  go_wp2_with fail
  refine c1.mono ?_
  rintro e w1 ⟨rfl, hb⟩
  have hb1 := hbz.trans (hb.mono hbz.size)
  go_wp2
  go_ret
  exact ⟨rfl, hb1⟩
end Go.Proofs.YtdmihbicpjmgjaaDoor
