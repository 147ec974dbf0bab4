/-
  Sets of processes: the contract of Has.
-/
import Derived.Test.YthloamhodapmpaaQSet1
import Derived.Test.YthloamhodapmpaaQFlow
namespace Go.Proofs.Ythloamhodapmpaa
open Go.RowKit Go.Maps
set_option linter.unusedVariables false
set_option linter.unusedSimpArgs false

/-- Has of a set that is none. -/
theorem has_nil (p : Pr) (w : World) :
    Calls Try.prog 88 #[.pointer none, .agg #[.int .u16 (p.i : Int), .int .u32 (p.k : Int)]] w fun e w' => e = .returned (.bool false) ∧ Below w.heap.size w w' := by
  go_enter Try.func88, Try.ntmps88
  go_wp2
  go_ret
  exact ⟨rfl, (Below.refl _ _).alloc (Nat.le_refl _) _⟩
/-- A cell of what is there, whatever is made behind it. -/
theorem cell_later {w w' : World} {a : Addr} {v : Value} (h : w.cell? a = some v) (hb : Below w.heap.size w w') : w'.cell? a = some v := (hb.cell (World.block_lt_of_cell? w a h)).trans h
set_option maxRecDepth 100000 in
theorem shas_any (b : Nat) (mg : Option Nat) (acc : List Pr) (p : Pr) (w : World) (h : SetAt w b mg acc) :
    Calls Try.prog 88 #[.pointer (some ⟨b, 0, none⟩), .agg #[.int .u16 (p.i : Int), .int .u32 (p.k : Int)]] w fun e w' => e = .returned (.bool (decide (p ∈ acc))) ∧ Below w.heap.size w w' := by
  have hl := fun W (hb : Below w.heap.size w W) => (h.later hb).look p
  have hc := fun W (hb : Below w.heap.size w W) => (h.later hb).cell
  generalize decide (p ∈ acc) = r at *
  go_enter Try.func88, Try.ntmps88
  go_wp2
  have hbz : Below w.heap.size w (w.alloc (.cells #[.int .u16 (p.i : Int), .int .u32 (p.k : Int)] 34)) := (Below.refl _ _).alloc (Nat.le_refl _) _
  have d0 : (w.alloc (.cells #[.int .u16 (p.i : Int), .int .u32 (p.k : Int)] 34)).cell? ⟨w.heap.size, 0, none⟩ = some (.int .u16 (p.i : Int)) := by go_simp
  have d1 : (w.alloc (.cells #[.int .u16 (p.i : Int), .int .u32 (p.k : Int)] 34)).cell? ⟨w.heap.size, 1, none⟩ = some (.int .u32 (p.k : Int)) := by go_simp
  generalize (w.alloc (.cells #[.int .u16 (p.i : Int), .int .u32 (p.k : Int)] 34)) = w1 at hbz d0 d1 ⊢
  have hz1 := hbz.size
  have hl1 := fun W (hb : Below w1.heap.size w1 W) => hl W (hbz.trans (hb.mono hz1))
  have hc1 := fun W (hb : Below w1.heap.size w1 W) => hc W (hbz.trans (hb.mono hz1))
  have e0 := fun W (hb : Below w1.heap.size w1 W) => cell_later d0 hb
  have e1 := fun W (hb : Below w1.heap.size w1 W) => cell_later d1 hb
  clear hl hc d0 d1
  refine wp_region_flow (by kernel_rfl) (by kernel_rfl) (by kernel_rfl) ?_
  refine flow_val rfl ?_
  apply Exists.intro
  apply And.intro
  · intro ρ w8 hr hf
    have r1 := hr.const
    have r2 := hr.func
    try simp [Oper.looksAt, Op.operands, Call.operands, tput, frameW, Act.eval] at hf
    go_simp
    try rfl
  refine flow_val rfl ?_
  apply Exists.intro
  apply And.intro
  · intro ρ w8 hr hf
    have r1 := hr.const
    have r2 := hr.func
    try simp [Oper.looksAt, Op.operands, Call.operands, tput, frameW, Act.eval] at hf
    go_simp
    try rfl
  refine flow_val rfl ?_
  apply Exists.intro
  apply And.intro
  · intro ρ w8 hr hf
    have r1 := hr.const
    have r2 := hr.func
    try simp [Oper.looksAt, Op.operands, Call.operands, tput, frameW, Act.eval] at hf
    go_simp
    try rfl
  refine flow_pure (.map mg) rfl ?_ ?_
  · intro ρ w8 hr hw hf
    have hc9 := hc1 w8 hw
    try simp [Oper.looksAt, Op.operands, Call.operands, tput, frameW, Act.eval] at hf
    go_simp
  refine flow_pure (.agg #[.int .u16 (p.i : Int), .int .u32 (p.k : Int)]) rfl ?_ ?_
  · intro ρ w8 hr hw hf
    have h8 := e0 w8 hw
    have h9 := e1 w8 hw
    try simp [Oper.looksAt, Op.operands, Call.operands, tput, frameW, Act.eval] at hf
    go_simp
  refine flow_pure (.tuple #[.agg #[], .bool r]) rfl ?_ ?_
  · intro ρ w8 hr hw hf
    have h9 := hl1 w8 hw
    simp [Oper.looksAt, Op.operands, Call.operands, tput, frameW, Act.eval] at hf
    go_simp
  refine flow_val rfl ?_
  apply Exists.intro
  apply And.intro
  · intro ρ w8 hr hf
    have r1 := hr.const
    have r2 := hr.func
    try simp [Oper.looksAt, Op.operands, Call.operands, tput, frameW, Act.eval] at hf
    go_simp
    try rfl
  refine flow_val rfl ?_
  apply Exists.intro
  apply And.intro
  · intro ρ w8 hr hf
    have r1 := hr.const
    have r2 := hr.func
    try simp [Oper.looksAt, Op.operands, Call.operands, tput, frameW, Act.eval] at hf
    go_simp
    try rfl
  refine flow_val rfl ?_
  apply Exists.intro
  apply And.intro
  · intro ρ w8 hr hf
    have r1 := hr.const
    have r2 := hr.func
    try simp [Oper.looksAt, Op.operands, Call.operands, tput, frameW, Act.eval] at hf
    go_simp
    try rfl
  refine flow_step (fun v W => ∃ x, v = .pointer (some ⟨x, 0, none⟩) ∧ W.heap[x]? = some (.cells #[] 123 (0, 0))) rfl (fun v W W' h hb => ?_) ?_ ?_
  · obtain ⟨x, e, hx⟩ := h
    exact ⟨x, e, (hb.block x (Array.getElem?_eq_some_iff.1 hx).1).trans hx⟩
  · intro ρ w8 hr hw hf
    go_simp
    exact ⟨(Below.refl _ _).alloc (Nat.le_refl _) _, _, rfl, heap_alloc_new w8 _⟩
  refine flow_step (fun _ _ => True) rfl (fun _ _ _ _ _ => trivial) ?_ ?_
  · intro ρ w8 hr hw hf
    simp [Oper.looksAt, Op.operands, Call.operands, tput, frameW, Act.eval] at hf
    obtain ⟨⟨x, hx1, hx2⟩, hf2⟩ := hf
    go_simp
    exact ⟨Below.refl _ _, trivial⟩
  refine flow_val rfl ?_
  apply Exists.intro
  apply And.intro
  · intro ρ w8 hr hf
    have r1 := hr.const
    have r2 := hr.func
    try simp [Oper.looksAt, Op.operands, Call.operands, tput, frameW, Act.eval] at hf
    go_simp
    try rfl
  refine flow_nil ?_
  intro f w9 hb9 hf
  have h6 := hf 6; simp [tput, frameW, Act.eval] at h6
  have h4 := hf 4; simp [tput, frameW, Act.eval] at h4
  rw [show frameOf f _ _ = ⟨#[f 0, f 1, f 2, f 3, f 4, f 5, f 6, f 7, f 8, f 9, f 10, f 11, f 12, f 13, f 14, f 15, f 16, f 17, f 18], []⟩ from rfl, h6, h4]
  go_wp2
  go_ret
  exact ⟨rfl, hbz.trans (hb9.mono hz1)⟩
end Go.Proofs.Ythloamhodapmpaa
