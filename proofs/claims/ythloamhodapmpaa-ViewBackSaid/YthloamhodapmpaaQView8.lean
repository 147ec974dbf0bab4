/-
  Layer 8: the document's example, awake.
-/
import Derived.Test.YthloamhodapmpaaQView7
import Derived.Test.YthloamhodapmpaaQFlow
namespace Go.Proofs.Ythloamhodapmpaa
open Go.RowKit Go.Maps
set_option linter.unusedVariables false
set_option linter.unusedSimpArgs false

/-- A row that is there. -/
def EsV {α : Type} (enc : α → List Value) (n : Nat) (l : List α) (v : Value) (w : World) : Prop := ∃ A c B, v = .slice A n c ∧ Es enc w B A n l ∧ B ≤ w.heap.size
theorem esV_steady {α : Type} {enc : α → List Value} (n : Nat) (l : List α) : Steady (EsV enc n l) := fun v w w' ⟨A, c, B, e, h, hB⟩ hb => ⟨A, c, B, e, h.below (hb.mono hB), Nat.le_trans hB hb.size⟩
theorem small_may : MayV smallV := by
  refine ⟨by decide, by decide, ⟨by decide, by decide, by decide, by decide⟩, ⟨?_, by decide, ?_⟩, by decide, ?_⟩
  · intro l hl
    simp only [smallV, List.mem_cons, List.not_mem_nil, or_false] at hl
    rcases hl with rfl | rfl
    · exact ⟨by decide, by unfold RiseP; decide⟩
    · exact ⟨by decide, by unfold RiseP; decide⟩
  · unfold RiseP; decide
  · unfold RiseP; decide
set_option maxRecDepth 100000 in
set_option maxHeartbeats 2000000 in
theorem awake8_any (w : World) :
    Calls Try.prog 10 #[] w fun e w' => e = .returned (.bool true) ∧ Below w.heap.size w w' := by
  go_enter Try.func10, Try.ntmps10
  go_wp2_with fail
  refine (small_any _).mono ?_
  rintro e w1 ⟨x, rfl, hin, hsm, hv, hb⟩
  have hmay : MayV x.v := by rw [hv]; exact small_may
  have n1 := fun W (h : Below w1.heap.size w1 W) => check_any x w1.heap.size W true (hin.below h) hsm h.size ⟨fun _ => hmay, fun _ => rfl⟩
  have n2 := fun W (h : Below w1.heap.size w1 W) A7 c7 B7 (h2 : Es prC W B7 A7 1 [q11]) (h3 : B7 ≤ W.heap.size) => quorum_any x A7 1 c7 [q11] w1.heap.size B7 W (hin.below h) hsm.f h.size h2 h3 (by decide)
  have n3 := fun W (h : Below w1.heap.size w1 W) => quorum_any x x.A x.m x.c x.l w1.heap.size w1.heap.size W (hin.below h) hsm.f h.size ((hin.below h).es) h.size (by have := hsm.m; omega)
  have n4 := fun W (h : Below w1.heap.size w1 W) => leaf_any x q21 w1.heap.size W (hin.below h) h.size
  have n5 := fun W (h : Below w1.heap.size w1 W) => rank_any x q91 w1.heap.size W (hin.below h) h.size
  rw [hv] at n4
  obtain ⟨id, A, m, c, l, B', d, e, q, C, f, g, r⟩ := x
  simp only [Vw.v, smallV, Vi.mk.injEq] at hv
  obtain ⟨v1, v2, v3, v4⟩ := hv
  dsimp only at *
  subst v2 v4
  have hm3 : m = 3 := by have := hin.es.len; simpa using this.symm
  rw [show ckI true = 0 from rfl] at n1
  rw [show quoB [q11, q21] [q11] = false from by decide +kernel] at n2
  rw [show quoB [q11, q21] [q11, q21, q31] = true from by decide +kernel] at n3
  rw [show lfI smallV.lvs q21 = 1 from by decide +kernel] at n4
  rw [show atI [q11, q21, q31] q91 = -1 from by decide +kernel] at n5
  obtain ⟨ad, hl1, rfl, hbl, hc1⟩ := hin.es.at_ prOk (show 0 < m by omega)
  obtain ⟨ad', hl2, had', _, hc2⟩ := hin.es.at_ prOk (show 1 < m by omega)
  obtain rfl : ad = ad' := by injection had'
  obtain ⟨p, hp⟩ : ∃ p, p = q11 := ⟨_, rfl⟩
  obtain ⟨p2, hp2⟩ : ∃ p, p = q21 := ⟨_, rfl⟩
  simp only [List.getElem_cons_zero, List.getElem_cons_succ] at hc1 hc2
  rw [← hp] at hc1 n2
  rw [← hp2] at hc2 n4
  obtain ⟨d0, d1⟩ := pr_at hc1
  obtain ⟨d2, d3⟩ := pr_at hc2
  rw [add_z] at d0 d1
  have ea : ad.add (1 * 2) = ⟨ad.block, ad.off + 2, none⟩ := by unfold Addr.add; simp
  rw [ea] at d2 d3
  dsimp only at d3
  have hbz : Below w1.heap.size w1 (w1.alloc (.cells #[.int .u64 (id : Int), .slice (some ad) m c, .slice B' d e, .slice C f g] 26)) := (Below.refl _ _).alloc (Nat.le_refl _) _
  have k0 : (w1.alloc (.cells #[.int .u64 (id : Int), .slice (some ad) m c, .slice B' d e, .slice C f g] 26)).heap[w1.heap.size]? = some (.cells #[.int .u64 (id : Int), .slice (some ad) m c, .slice B' d e, .slice C f g] 26) := heap_alloc_new w1 _
  have k1 : ∀ W, Below (w1.alloc (.cells #[.int .u64 (id : Int), .slice (some ad) m c, .slice B' d e, .slice C f g] 26)).heap.size (w1.alloc (.cells #[.int .u64 (id : Int), .slice (some ad) m c, .slice B' d e, .slice C f g] 26)) W → W.cell? ⟨w1.heap.size, 0, none⟩ = some (.int .u64 (id : Int)) ∧ W.cell? ⟨w1.heap.size, 1, none⟩ = some (.slice (some ad) m c) ∧ W.cell? ⟨w1.heap.size, 2, none⟩ = some (.slice B' d e) ∧ W.cell? ⟨w1.heap.size, 3, none⟩ = some (.slice C f g) := fun W h => (fun e : W.heap[w1.heap.size]? = some (.cells #[.int .u64 (id : Int), .slice (some ad) m c, .slice B' d e, .slice C f g] 26) => And.intro (cell_of_row W w1.heap.size 0 _ _ (0, 0) e) (And.intro (cell_of_row W w1.heap.size 1 _ _ (0, 0) e) (And.intro (cell_of_row W w1.heap.size 2 _ _ (0, 0) e) (cell_of_row W w1.heap.size 3 _ _ (0, 0) e)))) ((h.block _ (by simp)).trans k0)
  have k2 := fun W (h : Below (w1.alloc (.cells #[.int .u64 (id : Int), .slice (some ad) m c, .slice B' d e, .slice C f g] 26)).heap.size (w1.alloc (.cells #[.int .u64 (id : Int), .slice (some ad) m c, .slice B' d e, .slice C f g] 26)) W) => And.intro (cellL d0 (hbz.trans (h.mono hbz.size))) (cellL d1 (hbz.trans (h.mono hbz.size)))
  have k3 := fun W (h : Below (w1.alloc (.cells #[.int .u64 (id : Int), .slice (some ad) m c, .slice B' d e, .slice C f g] 26)).heap.size (w1.alloc (.cells #[.int .u64 (id : Int), .slice (some ad) m c, .slice B' d e, .slice C f g] 26)) W) => And.intro (cellL d2 (hbz.trans (h.mono hbz.size))) (cellL d3 (hbz.trans (h.mono hbz.size)))
  have n1 := fun W (h : Below (w1.alloc (.cells #[.int .u64 (id : Int), .slice (some ad) m c, .slice B' d e, .slice C f g] 26)).heap.size (w1.alloc (.cells #[.int .u64 (id : Int), .slice (some ad) m c, .slice B' d e, .slice C f g] 26)) W) => n1 W (hbz.trans (h.mono hbz.size))
  have n2 := fun W (h : Below (w1.alloc (.cells #[.int .u64 (id : Int), .slice (some ad) m c, .slice B' d e, .slice C f g] 26)).heap.size (w1.alloc (.cells #[.int .u64 (id : Int), .slice (some ad) m c, .slice B' d e, .slice C f g] 26)) W) => n2 W (hbz.trans (h.mono hbz.size))
  have n3 := fun W (h : Below (w1.alloc (.cells #[.int .u64 (id : Int), .slice (some ad) m c, .slice B' d e, .slice C f g] 26)).heap.size (w1.alloc (.cells #[.int .u64 (id : Int), .slice (some ad) m c, .slice B' d e, .slice C f g] 26)) W) => n3 W (hbz.trans (h.mono hbz.size))
  have n4 := fun W (h : Below (w1.alloc (.cells #[.int .u64 (id : Int), .slice (some ad) m c, .slice B' d e, .slice C f g] 26)).heap.size (w1.alloc (.cells #[.int .u64 (id : Int), .slice (some ad) m c, .slice B' d e, .slice C f g] 26)) W) => n4 W (hbz.trans (h.mono hbz.size))
  have n5 : ∀ W, Below (w1.alloc (.cells #[.int .u64 (id : Int), .slice (some ad) m c, .slice B' d e, .slice C f g] 26)).heap.size (w1.alloc (.cells #[.int .u64 (id : Int), .slice (some ad) m c, .slice B' d e, .slice C f g] 26)) W → Calls Try.prog 13 #[.agg #[.int .u64 (id : Int), .slice (some ad) m c, .slice B' d e, .slice C f g], .agg #[.int .u16 9, .int .u32 1]] W fun e w' => e = .returned (.int .i64 (-1)) ∧ Below W.heap.size W w' := fun W h => n5 W (hbz.trans (h.mono hbz.size))
  have y0 : 0 < m := by omega
  have y1 : 1 < m := by omega
  have z0 : (0 : Int) < (m : Int) := by omega
  have z1 : (1 : Int) < (m : Int) := by omega
  have hb2 := hb.trans (hbz.mono hb.size)
  clear hin hsm hmay hc1 hc2 d0 d1 d2 d3 hp hp2 hm3 v1 v3 hl1 hl2 had' k0 ea
  go_wp2_with fail
  clear hbz
  generalize w1.alloc (.cells #[.int .u64 (id : Int), .slice (some ad) m c, .slice B' d e, .slice C f g] 26) = w2 at *
  refine wp_region_flow (by kernel_rfl) (by kernel_rfl) (by kernel_rfl) ?_
  refine flow_pure (.agg #[.int .u64 (id : Int), .slice (some ad) m c, .slice B' d e, .slice C f g]) rfl ?_ ?_
  · intro ρ w8 hr hw hf
    obtain ⟨h8, h9, h10, h11⟩ := k1 w8 hw
    try simp [Oper.looksAt, Op.operands, Call.operands, tput, frameW, Act.eval] at hf
    go_simp
  refine flow_step (fun v _ => v = .int .i64 0) rfl (fun _ _ _ h _ => h) ?_ ?_
  · intro ρ w8 hr hw hf
    have r2 := hr.func
    simp [Oper.looksAt, Op.operands, Call.operands, tput, frameW, Act.eval] at hf
    have CN := hide (n1 w8 hw)
    go_simp
    refine ⟨Below.refl _ _, (unhide CN).mono ?_⟩
    rintro e w7 ⟨rfl, hb7⟩
    exact ⟨_, rfl, hb7, rfl⟩
  refine flow_val rfl ?_
  apply Exists.intro
  apply And.intro
  · intro ρ w8 hr hf
    have r1 := hr.const
    have r2 := hr.func
    try simp [Oper.looksAt, Op.operands, Call.operands, tput, frameW, Act.eval] at hf
    go_simp
    try rfl
  refine flow_val rfl ?_
  apply Exists.intro
  apply And.intro
  · intro ρ w8 hr hf
    have r1 := hr.const
    have r2 := hr.func
    try simp [Oper.looksAt, Op.operands, Call.operands, tput, frameW, Act.eval] at hf
    go_simp
    try rfl
  refine flow_yes_pure (.agg #[.int .u64 (id : Int), .slice (some ad) m c, .slice B' d e, .slice C f g]) 3 true 6 rfl rfl (fun v w8 h8 => by simpa [tput] using h8) ?_ ?_
  · intro ρ w8 hr hw hf
    obtain ⟨h8, h9, h10, h11⟩ := k1 w8 hw
    try simp [Oper.looksAt, Op.operands, Call.operands, tput, frameW, Act.eval] at hf
    go_simp
  refine flow_yes_val 3 true 6 rfl rfl (fun v w8 h8 => by simpa [tput] using h8) ?_
  apply Exists.intro
  apply And.intro
  · intro ρ w8 hr hf
    have r1 := hr.const
    have r2 := hr.func
    try simp [Oper.looksAt, Op.operands, Call.operands, tput, frameW, Act.eval] at hf
    go_simp
    try rfl
  refine flow_yes_pure (.slice (some ad) m c) 3 true 6 rfl rfl (fun v w8 h8 => by simpa [tput] using h8) ?_ ?_
  · intro ρ w8 hr hw hf
    obtain ⟨h8, h9, h10, h11⟩ := k1 w8 hw
    try simp [Oper.looksAt, Op.operands, Call.operands, tput, frameW, Act.eval] at hf
    go_simp
  refine flow_yes_val 3 true 6 rfl rfl (fun v w8 h8 => by simpa [tput] using h8) ?_
  apply Exists.intro
  apply And.intro
  · intro ρ w8 hr hf
    have r1 := hr.const
    have r2 := hr.func
    try simp [Oper.looksAt, Op.operands, Call.operands, tput, frameW, Act.eval] at hf
    go_simp
    try rfl
  refine flow_yes_pure (.agg #[.int .u16 (p.i : Int), .int .u32 (p.k : Int)]) 3 true 6 rfl rfl (fun v w8 h8 => by simpa [tput] using h8) ?_ ?_
  · intro ρ w8 hr hw hf
    have h8 := (k2 w8 hw).1
    have h9 := (k2 w8 hw).2
    try simp [Oper.looksAt, Op.operands, Call.operands, tput, frameW, Act.eval] at hf
    go_simp
  refine flow_yes (EsV prC 1 [p]) 3 true 6 rfl rfl (fun v w8 h8 => by simpa [tput] using h8) (esV_steady _ _) ?_ ?_
  · intro ρ w8 hr hw hf
    simp [Oper.looksAt, Op.operands, Call.operands, tput, frameW, Act.eval] at hf
    go_simp
    exact ⟨(Below.refl _ _).alloc (Nat.le_refl _) _, _, _, _, rfl, es_lit w8 p _, by simp⟩
  refine flow_yes (fun v _ => v = .bool false) 3 true 6 rfl rfl (fun v w8 h8 => by simpa [tput] using h8) (fun _ _ _ h _ => h) ?_ ?_
  · intro ρ w8 hr hw hf
    have r2 := hr.func
    simp [Oper.looksAt, Op.operands, Call.operands, tput, frameW, Act.eval] at hf
    obtain ⟨hf1, ⟨A7, c7, B7, hf2, he7, hB7⟩, hf3⟩ := hf
    have CN := hide (n2 w8 hw A7 c7 B7 he7 hB7)
    go_simp
    refine ⟨Below.refl _ _, (unhide CN).mono ?_⟩
    rintro e w7 ⟨rfl, hb7⟩
    exact ⟨_, rfl, hb7, rfl⟩
  refine flow_yes_val 3 true 6 rfl rfl (fun v w8 h8 => by simpa [tput] using h8) ?_
  apply Exists.intro
  apply And.intro
  · intro ρ w8 hr hf
    have r1 := hr.const
    have r2 := hr.func
    try simp [Oper.looksAt, Op.operands, Call.operands, tput, frameW, Act.eval] at hf
    go_simp
    try rfl
  refine flow_val rfl ?_
  apply Exists.intro
  apply And.intro
  · intro ρ w8 hr hf
    have r1 := hr.const
    have r2 := hr.func
    try simp [Oper.looksAt, Op.operands, Call.operands, tput, frameW, Act.eval] at hf
    go_simp
    try rfl
  refine flow_val rfl ?_
  apply Exists.intro
  apply And.intro
  · intro ρ w8 hr hf
    have r1 := hr.const
    have r2 := hr.func
    try simp [Oper.looksAt, Op.operands, Call.operands, tput, frameW, Act.eval] at hf
    go_simp
    try rfl
  refine flow_yes_pure (.agg #[.int .u64 (id : Int), .slice (some ad) m c, .slice B' d e, .slice C f g]) 13 true 16 rfl rfl (fun v w8 h8 => by simpa [tput] using h8) ?_ ?_
  · intro ρ w8 hr hw hf
    obtain ⟨h8, h9, h10, h11⟩ := k1 w8 hw
    try simp [Oper.looksAt, Op.operands, Call.operands, tput, frameW, Act.eval] at hf
    go_simp
  refine flow_yes_val 13 true 16 rfl rfl (fun v w8 h8 => by simpa [tput] using h8) ?_
  apply Exists.intro
  apply And.intro
  · intro ρ w8 hr hf
    have r1 := hr.const
    have r2 := hr.func
    try simp [Oper.looksAt, Op.operands, Call.operands, tput, frameW, Act.eval] at hf
    go_simp
    try rfl
  refine flow_yes_pure (.slice (some ad) m c) 13 true 16 rfl rfl (fun v w8 h8 => by simpa [tput] using h8) ?_ ?_
  · intro ρ w8 hr hw hf
    obtain ⟨h8, h9, h10, h11⟩ := k1 w8 hw
    try simp [Oper.looksAt, Op.operands, Call.operands, tput, frameW, Act.eval] at hf
    go_simp
  refine flow_yes (fun v _ => v = .bool true) 13 true 16 rfl rfl (fun v w8 h8 => by simpa [tput] using h8) (fun _ _ _ h _ => h) ?_ ?_
  · intro ρ w8 hr hw hf
    have r2 := hr.func
    simp [Oper.looksAt, Op.operands, Call.operands, tput, frameW, Act.eval] at hf
    have CN := hide (n3 w8 hw)
    go_simp
    refine ⟨Below.refl _ _, (unhide CN).mono ?_⟩
    rintro e w7 ⟨rfl, hb7⟩
    exact ⟨_, rfl, hb7, rfl⟩
  refine flow_val rfl ?_
  apply Exists.intro
  apply And.intro
  · intro ρ w8 hr hf
    have r1 := hr.const
    have r2 := hr.func
    try simp [Oper.looksAt, Op.operands, Call.operands, tput, frameW, Act.eval] at hf
    go_simp
    try rfl
  refine flow_val rfl ?_
  apply Exists.intro
  apply And.intro
  · intro ρ w8 hr hf
    have r1 := hr.const
    have r2 := hr.func
    try simp [Oper.looksAt, Op.operands, Call.operands, tput, frameW, Act.eval] at hf
    go_simp
    try rfl
  refine flow_yes_pure (.agg #[.int .u64 (id : Int), .slice (some ad) m c, .slice B' d e, .slice C f g]) 19 true 22 rfl rfl (fun v w8 h8 => by simpa [tput] using h8) ?_ ?_
  · intro ρ w8 hr hw hf
    obtain ⟨h8, h9, h10, h11⟩ := k1 w8 hw
    try simp [Oper.looksAt, Op.operands, Call.operands, tput, frameW, Act.eval] at hf
    go_simp
  refine flow_yes_val 19 true 22 rfl rfl (fun v w8 h8 => by simpa [tput] using h8) ?_
  apply Exists.intro
  apply And.intro
  · intro ρ w8 hr hf
    have r1 := hr.const
    have r2 := hr.func
    try simp [Oper.looksAt, Op.operands, Call.operands, tput, frameW, Act.eval] at hf
    go_simp
    try rfl
  refine flow_yes_pure (.slice (some ad) m c) 19 true 22 rfl rfl (fun v w8 h8 => by simpa [tput] using h8) ?_ ?_
  · intro ρ w8 hr hw hf
    obtain ⟨h8, h9, h10, h11⟩ := k1 w8 hw
    try simp [Oper.looksAt, Op.operands, Call.operands, tput, frameW, Act.eval] at hf
    go_simp
  refine flow_yes_val 19 true 22 rfl rfl (fun v w8 h8 => by simpa [tput] using h8) ?_
  apply Exists.intro
  apply And.intro
  · intro ρ w8 hr hf
    have r1 := hr.const
    have r2 := hr.func
    try simp [Oper.looksAt, Op.operands, Call.operands, tput, frameW, Act.eval] at hf
    go_simp
    try rfl
  refine flow_yes_pure (.agg #[.int .u16 (p2.i : Int), .int .u32 (p2.k : Int)]) 19 true 22 rfl rfl (fun v w8 h8 => by simpa [tput] using h8) ?_ ?_
  · intro ρ w8 hr hw hf
    have h8 := (k3 w8 hw).1
    have h9 := (k3 w8 hw).2
    try simp [Oper.looksAt, Op.operands, Call.operands, tput, frameW, Act.eval] at hf
    go_simp
  refine flow_yes (fun v _ => v = .int .i64 1) 19 true 22 rfl rfl (fun v w8 h8 => by simpa [tput] using h8) (fun _ _ _ h _ => h) ?_ ?_
  · intro ρ w8 hr hw hf
    have r2 := hr.func
    simp [Oper.looksAt, Op.operands, Call.operands, tput, frameW, Act.eval] at hf
    have CN := hide (n4 w8 hw)
    go_simp
    refine ⟨Below.refl _ _, (unhide CN).mono ?_⟩
    rintro e w7 ⟨rfl, hb7⟩
    exact ⟨_, rfl, hb7, rfl⟩
  refine flow_yes_val 19 true 22 rfl rfl (fun v w8 h8 => by simpa [tput] using h8) ?_
  apply Exists.intro
  apply And.intro
  · intro ρ w8 hr hf
    have r1 := hr.const
    have r2 := hr.func
    try simp [Oper.looksAt, Op.operands, Call.operands, tput, frameW, Act.eval] at hf
    go_simp
    try rfl
  refine flow_val rfl ?_
  apply Exists.intro
  apply And.intro
  · intro ρ w8 hr hf
    have r1 := hr.const
    have r2 := hr.func
    try simp [Oper.looksAt, Op.operands, Call.operands, tput, frameW, Act.eval] at hf
    go_simp
    try rfl
  refine flow_val rfl ?_
  apply Exists.intro
  apply And.intro
  · intro ρ w8 hr hf
    have r1 := hr.const
    have r2 := hr.func
    try simp [Oper.looksAt, Op.operands, Call.operands, tput, frameW, Act.eval] at hf
    go_simp
    try rfl
  refine flow_yes_pure (.agg #[.int .u64 (id : Int), .slice (some ad) m c, .slice B' d e, .slice C f g]) 28 true 31 rfl rfl (fun v w8 h8 => by simpa [tput] using h8) ?_ ?_
  · intro ρ w8 hr hw hf
    obtain ⟨h8, h9, h10, h11⟩ := k1 w8 hw
    try simp [Oper.looksAt, Op.operands, Call.operands, tput, frameW, Act.eval] at hf
    go_simp
  refine flow_yes_val 28 true 31 rfl rfl (fun v w8 h8 => by simpa [tput] using h8) ?_
  apply Exists.intro
  apply And.intro
  · intro ρ w8 hr hf
    have r1 := hr.const
    have r2 := hr.func
    try simp [Oper.looksAt, Op.operands, Call.operands, tput, frameW, Act.eval] at hf
    go_simp
    try rfl
  refine flow_yes (fun v _ => v = .int .i64 (-1)) 28 true 31 rfl rfl (fun v w8 h8 => by simpa [tput] using h8) (fun _ _ _ h _ => h) ?_ ?_
  · intro ρ w8 hr hw hf
    have r2 := hr.func
    simp [Oper.looksAt, Op.operands, Call.operands, tput, frameW, Act.eval] at hf
    have CN := hide (n5 w8 hw)
    go_simp
    refine ⟨Below.refl _ _, (unhide CN).mono ?_⟩
    rintro e w7 ⟨rfl, hb7⟩
    exact ⟨_, rfl, hb7, rfl⟩
  refine flow_yes_val 28 true 31 rfl rfl (fun v w8 h8 => by simpa [tput] using h8) ?_
  apply Exists.intro
  apply And.intro
  · intro ρ w8 hr hf
    have r1 := hr.const
    have r2 := hr.func
    try simp [Oper.looksAt, Op.operands, Call.operands, tput, frameW, Act.eval] at hf
    go_simp
    try rfl
  refine flow_val rfl ?_
  apply Exists.intro
  apply And.intro
  · intro ρ w8 hr hf
    have r1 := hr.const
    have r2 := hr.func
    try simp [Oper.looksAt, Op.operands, Call.operands, tput, frameW, Act.eval] at hf
    go_simp
    try rfl
  refine flow_val rfl ?_
  apply Exists.intro
  apply And.intro
  · intro ρ w8 hr hf
    have r1 := hr.const
    have r2 := hr.func
    try simp [Oper.looksAt, Op.operands, Call.operands, tput, frameW, Act.eval] at hf
    go_simp
    try rfl
  refine flow_nil ?_
  intro f9 w9 hb9 hf
  have g0 := hf 0
  simp [tput, frameW, Act.eval] at g0
  clear hf n1 n2 n3 n4 n5 k1 k2 k3
  rw [show frameOf f9 _ _ = ⟨#[f9 0, f9 1, f9 2, f9 3, f9 4, f9 5, f9 6, f9 7, f9 8, f9 9, f9 10, f9 11, f9 12, f9 13, f9 14, f9 15, f9 16, f9 17, f9 18, f9 19, f9 20, f9 21, f9 22, f9 23, f9 24, f9 25, f9 26, f9 27, f9 28, f9 29, f9 30, f9 31, f9 32, f9 33, f9 34, f9 35, f9 36], []⟩ from rfl, g0]
  go_wp2
  go_ret
  exact ⟨rfl, hb2.trans (hb9.mono hb2.size)⟩
end Go.Proofs.Ythloamhodapmpaa
