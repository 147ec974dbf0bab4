import Derived.Deep.RegionHeld3
import Derived.Test.YtjmkecaljkcoiaaGreatDoorQSortM
import Derived.Test.YtjmkecaljkcoiaaGreatDoorQGet1
import Derived.Test.YtjmkecaljkcoiaaGreatDoorQFlow
namespace Go.Proofs.YtjmkecaljkcoiaaGreatDoor
open Go.RowKit
set_option linter.unusedVariables false
set_option linter.unusedSimpArgs false
theorem getR_bds : ∀ (l : List UInt8) (i acc : Nat), i ≤ 9 → acc < 2 ^ (7 * i) → (getR i acc l).1 < 18446744073709551616 ∧ (getR i acc l).2.1 ≤ i + l.length ∧ (getR i acc l).2.1 ≤ 10 ∧ (getR i acc l).2.2 ≤ 5
  | [], i, acc, _, _ => by rw [getR]; exact ⟨by decide, Nat.zero_le _, by decide, by decide⟩
  | x :: t, i, acc, hi, ha => by
    have hx := x.toNat_lt
    rw [getR]
    by_cases h9 : i = 9 ∧ 1 < x.toNat
    · rw [if_pos h9]; exact ⟨by decide, Nat.zero_le _, by decide, by decide⟩
    · rw [if_neg h9]
      have e : 2 ^ (7 * (i + 1)) = 128 * 2 ^ (7 * i) := by rw [show (128 : Nat) = 2 ^ 7 from rfl, ← Nat.pow_add]; congr 1; omega
      have h3 : x.toNat % 128 * 2 ^ (7 * i) ≤ 127 * 2 ^ (7 * i) := Nat.mul_le_mul_right _ (by omega)
      by_cases h1 : 128 ≤ x.toNat
      · rw [if_pos h1]
        have := getR_bds t (i + 1) (acc + x.toNat % 128 * 2 ^ (7 * i)) (by omega) (by rw [e]; omega)
        rw [List.length_cons]
        omega
      · rw [if_neg h1]
        by_cases h0 : x.toNat = 0 ∧ 0 < i
        · rw [if_pos h0]; exact ⟨by decide, Nat.zero_le _, by decide, by decide⟩
        · rw [if_neg h0, List.length_cons]
          refine ⟨?_, by show i + 1 ≤ i + (t.length + 1); omega, by show i + 1 ≤ 10; omega, Nat.zero_le _⟩
          show acc + x.toNat % 128 * 2 ^ (7 * i) < _
          by_cases hn : i = 9
          · subst hn
            have h5 : x.toNat % 128 * 2 ^ (7 * 9) ≤ 1 * 2 ^ (7 * 9) := Nat.mul_le_mul_right _ (by omega)
            have e1 : (2 : Nat) ^ (7 * 9) = 9223372036854775808 := by decide
            rw [e1] at h5 ha ⊢
            omega
          · have h4 : 2 ^ (7 * (i + 1)) ≤ 2 ^ 63 := Nat.pow_le_pow_right (by decide) (by omega)
            have e2 : (2 : Nat) ^ 63 = 9223372036854775808 := by decide
            rw [e, e2] at h4
            omega
theorem getF_bds (l : List UInt8) : (getF l).1 < 18446744073709551616 ∧ (getF l).2.1 ≤ l.length ∧ (getF l).2.1 ≤ 10 ∧ (getF l).2.2 ≤ 5 := by
  have := getR_bds l 0 0 (by decide) (by decide)
  simpa [getF] using this
def pidL (i k : Nat) : List UInt8 := shortL i ++ shortL k
def pidG (l : List UInt8) : Nat × Nat × Nat × Nat :=
  if (getF l).2.2 = 0 then
    if (getF (l.drop (getF l).2.1)).2.2 = 0 then
      if (getF l).1 < 65536 ∧ (getF (l.drop (getF l).2.1)).1 < 4294967296 then ((getF l).1, (getF (l.drop (getF l).2.1)).1, (getF l).2.1 + (getF (l.drop (getF l).2.1)).2.1, 0)
      else (0, 0, 0, 5)
    else (0, 0, 0, (getF (l.drop (getF l).2.1)).2.2)
  else (0, 0, 0, (getF l).2.2)
def MakesB (w : World) (L : List UInt8) (e : Ending) (w' : World) : Prop :=
  ∃ A c, e = .returned (.slice A L.length c) ∧ OwnB w' w.heap.size (.slice A L.length c) L.length L ∧ Below w.heap.size w w'
def OwnW (B n : Nat) (L : List UInt8) : Word := fun v w => OwnB w B v n L
theorem OwnW.steady (B n : Nat) (L : List UInt8) : Steady (OwnW B n L) := fun _ _ _ h hb => OwnB.later h hb
theorem putShort_word (A : Option Addr) (n c : Nat) (l : List UInt8) (B0 x m B : Nat) (w : World) (hA : Bs w B0 A n l) (hB0 : B0 ≤ w.heap.size) (hn : n ≤ 70368744177664) (hx : x < 18446744073709551616) (hB : B ≤ w.heap.size) (hm : m = n + (shortL x).length) :
    Calls Tryz.prog 198 #[.slice A n c, .int .u64 x] w fun e w' => ∃ v, e = .returned v ∧ Below w.heap.size w w' ∧ OwnW B m (l ++ shortL x) v w' :=
  (putShort_any A n c l B0 x w hA hB0 hn hx).mono fun _ _ ⟨he, ho, hb, _⟩ => ⟨_, he, hb, by subst hm; exact ho.mono hB⟩
set_option maxRecDepth 100000 in
theorem ppid_any (A : Option Addr) (n c : Nat) (l : List UInt8) (B i k : Nat) (w : World) (hA : Bs w B A n l) (hB : B ≤ w.heap.size) (hn : n ≤ 1000000) (hi : i < 65536) (hk : k < 4294967296) :
    Calls Tryz.prog 199 #[.slice A n c, .agg #[.int .u16 i, .int .u32 k]] w (MakesB w (l ++ pidL i k)) := by
  have hlen := hA.len
  have HL := hide hlen
  clear hlen
  obtain ⟨li, hli⟩ : ∃ m, m = (shortL i).length := ⟨_, rfl⟩
  obtain ⟨lk, hlk⟩ : ∃ m, m = (shortL k).length := ⟨_, rfl⟩
  have hi10 := (shortL_len i).2
  have hk10 := (shortL_len k).2
  rw [← hli] at hi10
  rw [← hlk] at hk10
  have HI := hide hli
  have HK := hide hlk
  clear hli hlk
  go_enter Tryz.func199, Tryz.ntmps199
  go_wp2
  have f0 : (w.alloc (.cells #[.int .u16 i, .int .u32 k] 44)).cell? ⟨w.heap.size, 0, none⟩ = some (.int .u16 i) := by go_simp
  have f1 : (w.alloc (.cells #[.int .u16 i, .int .u32 k] 44)).cell? ⟨w.heap.size, 1, none⟩ = some (.int .u32 k) := by go_simp
  have hb : Below w.heap.size w (w.alloc (.cells #[.int .u16 i, .int .u32 k] 44)) := ((Below.refl _ _).alloc (Nat.le_refl _) _)
  have hA1 := hA.below (hb.mono hB)
  generalize (w.alloc (.cells #[.int .u16 i, .int .u32 k] 44)) = w1 at f0 f1 hb hA1 ⊢
  have hs1 := hb.size
  have g0 : ∀ v : World, Below w1.heap.size w1 v → v.cell? ⟨w.heap.size, 0, none⟩ = some (.int .u16 i) := fun v h => (h.cell (World.block_lt_of_cell? _ _ f0)).trans f0
  have g1 : ∀ v : World, Below w1.heap.size w1 v → v.cell? ⟨w.heap.size, 1, none⟩ = some (.int .u32 k) := fun v h => (h.cell (World.block_lt_of_cell? _ _ f1)).trans f1
  clear f0 f1
  have wi : IntKind.u64.wrap (i : Int) = (i : Int) := by rw [IntKind.wrap_u64]; omega
  have wk : IntKind.u64.wrap (k : Int) = (k : Int) := by rw [IntKind.wrap_u64]; omega
  refine wp_region_flow (by kernel_rfl) (by kernel_rfl) (by kernel_rfl) ?_
  iterate 2
    refine flow_val rfl ?_
    apply Exists.intro
    apply And.intro
    · intro ρ w2 hr hf
      have r1 := hr.const
      have r2 := hr.func
      try simp [Oper.looksAt, Op.operands, Call.operands, tput, frameW, Act.eval] at hf
      go_simp
      try rfl
  refine flow_pure (.int .u16 i) rfl ?_ ?_
  · intro ρ w2 hr hw hf
    have g2 := g0 w2 hw
    simp [Oper.looksAt, Op.operands, Call.operands, tput, frameW, Act.eval] at hf
    go_simp
  refine flow_val rfl ?_
  apply Exists.intro
  apply And.intro
  · intro ρ w2 hr hf
    simp [Oper.looksAt, Op.operands, Call.operands, tput, frameW, Act.eval] at hf
    go_simp
    try rfl
  refine flow_step (OwnW w.heap.size (n + li) (l ++ shortL i)) rfl (OwnW.steady _ _ _) ?_ ?_
  · intro ρ w2 hr hw hf
    have r2 := hr.func
    simp [Oper.looksAt, Op.operands, Call.operands, tput, frameW, Act.eval] at hf
    have H9 := hide (putShort_word A n c l B i (n + li) w.heap.size w2 (hA1.below (hw.mono (by omega))) (by have := hw.size; omega) (by omega) (by omega) (by have := hw.size; omega) (by rw [HI.out]))
    go_simp
    exact ⟨Below.refl _ _, unhide H9⟩
  refine flow_val rfl ?_
  apply Exists.intro
  apply And.intro
  · intro ρ w2 hr hf
    simp [Oper.looksAt, Op.operands, Call.operands, tput, frameW, Act.eval] at hf
    go_simp
    try rfl
  refine flow_pure (.int .u32 k) rfl ?_ ?_
  · intro ρ w2 hr hw hf
    have g2 := g1 w2 hw
    simp [Oper.looksAt, Op.operands, Call.operands, tput, frameW, Act.eval] at hf
    go_simp
  refine flow_val rfl ?_
  apply Exists.intro
  apply And.intro
  · intro ρ w2 hr hf
    simp [Oper.looksAt, Op.operands, Call.operands, tput, frameW, Act.eval] at hf
    go_simp
    try rfl
  refine flow_step (OwnW w.heap.size (n + li + lk) (l ++ pidL i k)) rfl (OwnW.steady _ _ _) ?_ ?_
  · intro ρ w2 hr hw hf
    have r2 := hr.func
    simp [Oper.looksAt, Op.operands, Call.operands, tput, frameW, Act.eval] at hf
    generalize hu : ρ (.tmp 9) = u9 at hf
    obtain ⟨h9, h12⟩ := hf
    obtain ⟨A9, c9, rfl⟩ := OwnB.shape h9
    have h8 := putShort_word A9 (n + li) c9 (l ++ shortL i) _ k (n + li + lk) w.heap.size w2 h9.bs (Nat.le_refl _) (by omega) (by omega) (by have := hw.size; omega) (by rw [HK.out])
    rw [List.append_assoc] at h8
    have H9 := hide h8
    clear h8
    clear h9
    go_simp
    exact ⟨Below.refl _ _, unhide H9⟩
  refine flow_step (OwnW w.heap.size (n + li + lk) (l ++ pidL i k)) rfl (OwnW.steady _ _ _) ?_ ?_
  · intro ρ w2 hr hw hf
    simp [Oper.looksAt, Op.operands, Call.operands, tput, frameW, Act.eval] at hf
    generalize hu : ρ (.tmp 13) = u9 at hf
    have HF := hide hf
    clear hf
    go_simp
    exact ⟨Below.refl _ _, unhide HF⟩
  refine flow_nil ?_
  intro f w2 hw hf
  have h4 := hf 4
  simp [tput, frameW, Act.eval] at h4
  rw [show frameOf f _ _ = ⟨#[f 0, f 1, f 2, f 3, f 4, f 5, f 6, f 7, f 8, f 9, f 10, f 11, f 12, f 13], []⟩ from rfl]
  clear hf
  obtain ⟨A9, c9, h9⟩ := OwnB.shape h4
  rw [h9] at h4 ⊢
  have HB := hide (hb.trans (hw.mono hs1))
  have HO := hide h4
  clear h9 h4 hw hb
  have e1 : n + li + lk = (l ++ pidL i k).length := by rw [pidL, List.length_append, List.length_append, HL.out, HI.out, HK.out, Nat.add_assoc]
  have hm : MakesB w (l ++ pidL i k) (.returned (.slice A9 (n + li + lk) c9)) w2 := ⟨A9, c9, by rw [e1], e1 ▸ HO.out, HB.out⟩
  have HM := Lib.hid hm
  clear HO HB e1 hm
  go_wp2
  go_ret
  exact HM.out
theorem pidG_1 {l : List UInt8} (h1 : (getF l).2.2 ≠ 0) : pidG l = (0, 0, 0, (getF l).2.2) := by rw [pidG, if_neg h1]
theorem pidG_2 {l : List UInt8} (h1 : (getF l).2.2 = 0) (h2 : (getF (l.drop (getF l).2.1)).2.2 ≠ 0) : pidG l = (0, 0, 0, (getF (l.drop (getF l).2.1)).2.2) := by rw [pidG, if_pos h1, if_neg h2]
theorem pidG_3 {l : List UInt8} (h1 : (getF l).2.2 = 0) (h2 : (getF (l.drop (getF l).2.1)).2.2 = 0) (h3 : ¬ ((getF l).1 < 65536 ∧ (getF (l.drop (getF l).2.1)).1 < 4294967296)) : pidG l = (0, 0, 0, 5) := by
  rw [pidG, if_pos h1, if_pos h2, if_neg h3]
theorem pidG_4 {l : List UInt8} (h1 : (getF l).2.2 = 0) (h2 : (getF (l.drop (getF l).2.1)).2.2 = 0) (h3 : (getF l).1 < 65536 ∧ (getF (l.drop (getF l).2.1)).1 < 4294967296) :
    pidG l = ((getF l).1, (getF (l.drop (getF l).2.1)).1, (getF l).2.1 + (getF (l.drop (getF l).2.1)).2.1, 0) := by
  rw [pidG, if_pos h1, if_pos h2, if_pos h3]
def GetsP (w : World) (q : Nat × Nat × Nat × Nat) (e : Ending) (w' : World) : Prop :=
  e = .returned (.tuple #[.agg #[.int .u16 q.1, .int .u32 q.2.1], .int .i64 q.2.2.1, .int .i64 q.2.2.2]) ∧ Below w.heap.size w w'
end Go.Proofs.YtjmkecaljkcoiaaGreatDoor
namespace Go.Proofs.YtjmkecaljkcoiaaGreatDoor
open Go.RowKit
set_option linter.unusedVariables false
theorem pidG_bds (l : List UInt8) : (pidG l).1 < 65536 ∧ (pidG l).2.1 < 4294967296 ∧ (pidG l).2.2.1 ≤ l.length ∧ (pidG l).2.2.2 ≤ 5 := by
  have h1 := getF_bds l
  have h2 := getF_bds (l.drop (getF l).2.1)
  by_cases a1 : (getF l).2.2 = 0
  · by_cases a2 : (getF (l.drop (getF l).2.1)).2.2 = 0
    · by_cases a3 : (getF l).1 < 65536 ∧ (getF (l.drop (getF l).2.1)).1 < 4294967296
      · rw [pidG_4 a1 a2 a3]
        refine ⟨a3.1, a3.2, ?_, Nat.zero_le _⟩
        show (getF l).2.1 + (getF (l.drop (getF l).2.1)).2.1 ≤ l.length
        have := h2.2.1
        rw [List.length_drop] at this
        omega
      · rw [pidG_3 a1 a2 a3]; exact ⟨by decide, by decide, Nat.zero_le _, show 5 ≤ 5 by decide⟩
    · rw [pidG_2 a1 a2]; exact ⟨show 0 < 65536 by decide, show 0 < 4294967296 by decide, Nat.zero_le _, h2.2.2.2⟩
  · rw [pidG_1 a1]; exact ⟨show 0 < 65536 by decide, show 0 < 4294967296 by decide, Nat.zero_le _, h1.2.2.2⟩
theorem pidL_len (i c : Nat) : (pidL i c).length ≤ 20 := by
  rw [pidL, List.length_append]; have := (shortL_len i).2; have := (shortL_len c).2; omega
end Go.Proofs.YtjmkecaljkcoiaaGreatDoor
namespace Go.Proofs.YtjmkecaljkcoiaaGreatDoor
open Go.RowKit
set_option linter.unusedVariables false
set_option linter.unusedSimpArgs false
def WrAt (w : World) (base b : Nat) (mg : Option Nat) (l : List UInt8) : Prop :=
  base ≤ b ∧ ∃ A c, w.heap[b]? = some (.cells #[.slice A l.length c] 145 (0, 0)) ∧ (Value.slice A l.length c).ownBlock = mg ∧ OwnB w base (.slice A l.length c) l.length l
section
variable {w w' : World} {base b : Nat} {mg : Option Nat} {l : List UInt8}
theorem WrAt.lt (h : WrAt w base b mg l) : b < w.heap.size := by
  obtain ⟨_, A, c, h, _⟩ := h
  exact lt_of_heap h
theorem WrAt.mlt (h : WrAt w base b mg l) : ∀ g, mg = some g → base ≤ g ∧ g < w.heap.size ∧ g ≠ b := by
  obtain ⟨_, A, c, h1, h2, h3⟩ := h
  intro g hg
  have hlt := h3.lt g (by rw [h2]; exact hg)
  refine ⟨hlt.1, hlt.2, fun e => ?_⟩
  subst e
  rcases h3.2 with ⟨hv, _⟩ | ⟨g', cap, cur, hv, _, hh, _⟩
  · rw [hv] at h2
    rw [← h2] at hg
    cases hg
  · rw [hv] at h2
    rw [← h2] at hg
    injection hg with e
    simp only at e
    subst e
    rw [h1] at hh
    injection hh with hh
    injection hh with _ e2
    exact absurd e2 (by decide)
theorem WrAt.keep (h : WrAt w base b mg l) (h1 : w'.heap[b]? = w.heap[b]?) (h2 : ∀ g, mg = some g → w'.heap[g]? = w.heap[g]?) : WrAt w' base b mg l := by
  obtain ⟨hbb, A, c, k1, k2, k3⟩ := h
  refine ⟨hbb, A, c, h1.trans k1, k2, k3.1, ?_⟩
  rcases k3.2 with h0 | ⟨g, cap, cur, hv, hb, hh, r⟩
  · exact .inl h0
  · refine .inr ⟨g, cap, cur, hv, hb, (h2 g ?_).trans hh, r⟩
    rw [← k2, hv]
    rfl
theorem WrAt.below {B : Nat} (h : WrAt w base b mg l) (hb : Below B w w') (hB : b < B) (hm : ∀ g, mg = some g → g < B) : WrAt w' base b mg l := h.keep (hb.block b hB) fun g hg => hb.block g (hm g hg)
theorem WrAt.later (h : WrAt w base b mg l) (hb : Below w.heap.size w w') : WrAt w' base b mg l := h.below hb h.lt fun g hg => (h.mlt g hg).2.1
theorem WrAt.turned (h : WrAt w base b mg l) (ht : Turn w w' b mg) (hs : base ≤ w.heap.size) : Below base w w' := ht.below hs h.1 fun g hg => (h.mlt g hg).1
theorem WrAt.alloc (h : WrAt w base b mg l) (o : Obj) : WrAt (w.alloc o) base b mg l := h.later ((Below.refl _ _).alloc (Nat.le_refl _) o)
theorem WrAt.new (w : World) (base : Nat) (hb : base ≤ w.heap.size) : WrAt (w.alloc (.cells #[.slice none 0 0] 145)) base w.heap.size none [] := ⟨hb, none, 0, heap_alloc_new w _, rfl, OwnB.nil_ _ _⟩
end
def WroteP (w : World) (base b : Nat) (mg : Option Nat) (l : List UInt8) (e : Ending) (w' : World) : Prop :=
  e = .returned (.tuple #[]) ∧ ∃ mg', WrAt w' base b mg' l ∧ Turn w w' b mg ∧ Mov w mg mg'
theorem WroteP.ahead {w w1 : World} {base b : Nat} {mg : Option Nat} {l : List UInt8} {e : Ending} {w' : World} (hb : Below w.heap.size w w1) (h : WroteP w1 base b mg l e w') : WroteP w base b mg l e w' := by
  obtain ⟨he, mg', h1, h2, h3⟩ := h
  refine ⟨he, mg', h1, Turn.ahead hb h2, ?_⟩
  rcases h3 with rfl | ⟨g, rfl, hg⟩
  · exact .inl rfl
  · exact .inr ⟨g, rfl, Nat.le_trans hb.size hg⟩
theorem WroteP.two {w w1 : World} {base b : Nat} {mg mg1 : Option Nat} {l : List UInt8} {e : Ending} {w' : World} (h1 : Turn w w1 b mg) (hm : Mov w mg mg1) (h : WroteP w1 base b mg1 l e w') : WroteP w base b mg l e w' := by
  obtain ⟨he, mg', k1, k2, k3⟩ := h
  exact ⟨he, mg', k1, h1.trans k2 hm, hm.trans k3 h1.size⟩
set_option maxRecDepth 100000 in
theorem lay_any (base b : Nat) (mg : Option Nat) (L : List UInt8) (A : Option Addr) (n c : Nat) (l : List UInt8) (B : Nat) (w : World) (h : WrAt w base b mg L) (hA : Bs w B A n l) (hbase : base ≤ w.heap.size) (hn : L.length + n ≤ 100000000) :
    Calls Tryz.prog 197 #[.pointer (some ⟨b, 0, none⟩), .slice A n c] w (WroteP w base b mg (L ++ l)) := by
  have hml := h.mlt
  obtain ⟨hbb, A0, c0, hblk, hmg, hO⟩ := h
  have f0 : w.cell? ⟨b, 0, none⟩ = some (.slice A0 L.length c0) := cell_of_row w b 0 _ _ (0, 0) hblk
  have fz := frozen_of_row w b 0 _ _ hblk
  have hblt := lt_of_heap hblk
  have hlen := hA.len
  obtain ⟨k, hk⟩ : ∃ k, k = L.length := ⟨_, rfl⟩
  rw [← hk] at hO f0 hmg hblk hn
  have hbm : some b ≠ (Value.slice A0 k c0).ownBlock := by
    rw [hmg]
    intro e
    exact (hml b e.symm).2.2 rfl
  have HK := hide hk
  have HL := hide hlen
  have HM := hide hmg
  clear hk hlen hmg
  go_enter Tryz.func197, Tryz.ntmps197
  go_wp2_with (at_builtin; refine wp_bytes_mov _ rfl (.tmp 10) (.tmp 11) rfl base k _ L rfl hO _ A n c l rfl hA (by omega) hbase ?_)
  intro A' c' w1 hO1 hg1 hm1
  have hh1 := hg1.block b hblt hbm
  have f1 : w1.cell? ⟨b, 0, none⟩ = some (.slice A0 k c0) := (World.cell?_of_block hh1).trans f0
  have fz1 : w1.frozen? ⟨b, 0, none⟩ = false := (World.frozen?_of_block hh1).trans fz
  have hblk1 := hh1.trans hblk
  have hs1 := hg1.size
  clear f0 fz
  have hw : WroteP w base b mg (L ++ l) (.returned (.tuple #[])) (w1.setCell ⟨b, 0, none⟩ (.slice A' (k + n) c')) := by
    have e1 : (L ++ l).length = k + n := by rw [List.length_append, HL.out, HK.out]
    have hne : ∀ g, (Value.slice A' (k + n) c').ownBlock = some g → g ≠ b := by
      intro g hg e
      subst e
      rcases hO1.2 with ⟨hv, _⟩ | ⟨g', cap, cur, hv, _, hh, _⟩
      · rw [hv] at hg; cases hg
      · rw [hv] at hg
        injection hg with e
        simp only at e
        subst e
        rw [hblk1] at hh
        injection hh with hh
        injection hh with _ e2
        exact absurd e2 (by decide)
    rw [HM.out] at hm1
    refine ⟨rfl, _, ⟨hbb, A', c', ?_, rfl, ?_⟩, ?_, by rw [e1]; exact hm1⟩
    · have := heap_setCell_same w1 b 0 _ _ (.slice A' (k + n) c') hblk1
      rw [this, e1]
      rfl
    · rw [e1]
      refine ⟨hO1.1, ?_⟩
      rcases hO1.2 with h0 | ⟨g, cap, cur, hv, hb, hh, r⟩
      · exact .inl h0
      · refine .inr ⟨g, cap, cur, hv, hb, (Below.heap_setCell w1 _ _ g (hne g ?_)).trans hh, r⟩
        rw [hv]; rfl
    · refine Turn.set_ (Turn.of_grown hg1 fun i hi => ?_) rfl _
      rw [HM.out] at hi
      exact .inr (.inl hi.symm)
  have HW := hide hw
  clear hw hO1 hm1
  go_wp2
  first | go_end0 | refine bodyPost_ret (results_none rfl _ _ _) rfl ?_
  exact HW.out
def boolL (t : Bool) : List UInt8 := [if t then 1 else 0]
theorem boolL_form (t : Bool) : boolL t = formL (if t then 1 else 0) 1 := by cases t <;> decide
theorem putShort0 (x : Nat) (w : World) (hx : x < 18446744073709551616) : Calls Tryz.prog 198 #[.slice none 0 0, .int .u64 x] w (MakesB w (shortL x)) :=
  (putShort_any none 0 0 [] 0 x w Bs.none_ (Nat.zero_le _) (by decide) hx).mono fun _ _ ⟨he, ho, hb, _⟩ => by
    rw [Nat.zero_add] at he ho
    rw [List.nil_append] at ho
    exact ⟨_, _, he, ho, hb⟩
theorem put0 (t : Bool) (w : World) : Calls Tryz.prog 200 #[.slice none 0 0, .int .u64 (if t then 1 else 0), .int .i64 1] w (MakesB w (boolL t)) := by
  rw [boolL_form]
  cases t
  · exact (put_any none 0 0 [] 0 0 1 w Bs.none_ (Nat.zero_le _) (by decide) (by decide) (by decide)).mono fun _ _ ⟨he, ho, hb, _⟩ => ⟨_, _, he, ho, hb⟩
  · exact (put_any none 0 0 [] 0 1 1 w Bs.none_ (Nat.zero_le _) (by decide) (by decide) (by decide)).mono fun _ _ ⟨he, ho, hb, _⟩ => ⟨_, _, he, ho, hb⟩
theorem pput0 (i k : Nat) (w : World) (hi : i < 65536) (hk : k < 4294967296) : Calls Tryz.prog 199 #[.slice none 0 0, .agg #[.int .u16 i, .int .u32 k]] w (MakesB w (pidL i k)) := by
  have := ppid_any none 0 0 [] 0 i k w Bs.none_ (Nat.zero_le _) (by decide) hi hk
  rwa [List.nil_append] at this
set_option maxRecDepth 100000 in
theorem wnum_any (base b : Nat) (mg : Option Nat) (L : List UInt8) (x : Nat) (w : World) (h : WrAt w base b mg L) (hbase : base ≤ w.heap.size) (hn : L.length ≤ 10000000) (hx : x < 18446744073709551616) :
    Calls Tryz.prog 150 #[.pointer (some ⟨b, 0, none⟩), .int .u64 x] w (WroteP w base b mg (L ++ shortL x)) := by
  have c1 := fun W => putShort0 x W hx
  have h10 := (shortL_len x).2
  generalize shortL x = l at *
  go_enter Tryz.func150, Tryz.ntmps150
  go_wp2_with fail
  refine (c1 _).mono ?_
  rintro e w1 ⟨A, c, rfl, hO, hb⟩
  clear c1
  go_wp2_with fail
  have hs := hb.size
  refine (lay_any base b mg L A l.length c l _ w1 (h.later hb) hO.bs (by omega) (by omega)).mono ?_
  rintro e w2 ⟨rfl, hw⟩
  have HW := hide (WroteP.ahead hb ⟨rfl, hw⟩)
  clear hw hO
  go_wp2
  first | go_end0 | refine bodyPost_ret (results_none rfl _ _ _) rfl ?_
  exact HW.out
set_option maxRecDepth 100000 in
theorem wtruth_any (base b : Nat) (mg : Option Nat) (L : List UInt8) (t : Bool) (w : World) (h : WrAt w base b mg L) (hbase : base ≤ w.heap.size) (hn : L.length ≤ 10000000) :
    Calls Tryz.prog 153 #[.pointer (some ⟨b, 0, none⟩), .bool t] w (WroteP w base b mg (L ++ boolL t)) := by
  have c1 := fun W => put0 t W
  have h10 : (boolL t).length ≤ 1 := Nat.le_refl 1
  generalize boolL t = l at *
  cases t
  all_goals
    simp only [Bool.false_eq_true, if_false, if_true] at c1
    go_enter Tryz.func153, Tryz.ntmps153
    go_wp2_with fail
    refine (c1 _).mono ?_
    rintro e w1 ⟨A, c, rfl, hO, hb⟩
    clear c1
    go_wp2_with fail
    have hs := hb.size
    refine (lay_any base b mg L A l.length c l _ w1 (h.later hb) hO.bs (by omega) (by omega)).mono ?_
    rintro e w2 ⟨rfl, hw⟩
    have HW := hide (WroteP.ahead hb ⟨rfl, hw⟩)
    clear hw hO
    go_wp2
    first | go_end0 | refine bodyPost_ret (results_none rfl _ _ _) rfl ?_
    exact HW.out
set_option maxRecDepth 100000 in
theorem wpid_any (base b : Nat) (mg : Option Nat) (L : List UInt8) (i k : Nat) (w : World) (h : WrAt w base b mg L) (hbase : base ≤ w.heap.size) (hn : L.length ≤ 10000000) (hi : i < 65536) (hk : k < 4294967296) :
    Calls Tryz.prog 151 #[.pointer (some ⟨b, 0, none⟩), .agg #[.int .u16 i, .int .u32 k]] w (WroteP w base b mg (L ++ pidL i k)) := by
  have c1 := fun W => pput0 i k W hi hk
  have h10 := pidL_len i k
  generalize pidL i k = l at *
  have hb0 : Below w.heap.size w (w.alloc (.cells #[.int .u16 i, .int .u32 k] 44)) := (Below.refl _ _).alloc (Nat.le_refl _) _
  go_enter Tryz.func151, Tryz.ntmps151
  go_wp2_with fail
  refine (c1 _).mono ?_
  rintro e w1 ⟨A, c, rfl, hO, hb⟩
  have hb1 := hb0.trans (hb.mono hb0.size)
  clear c1 hb hb0
  go_wp2_with fail
  have hs := hb1.size
  refine (lay_any base b mg L A l.length c l _ w1 (h.later hb1) hO.bs (by omega) (by omega)).mono ?_
  rintro e w2 ⟨rfl, hw⟩
  have HW := hide (WroteP.ahead hb1 ⟨rfl, hw⟩)
  clear hw hO
  go_wp2
  first | go_end0 | refine bodyPost_ret (results_none rfl _ _ _) rfl ?_
  exact HW.out
theorem WrAt.grown {w w' : World} {base b : Nat} {mg : Option Nat} {v : Value} {L : List UInt8} (hw : WrAt w base b mg L) (hg : w.grownBy w' v.ownBlock) (ha : Apart v b mg) : WrAt w' base b mg L := by
  refine hw.keep (hg.block b hw.lt fun e => (ha b e.symm).1 rfl) fun g hm => hg.block g (hw.mlt g hm).2.1 fun e => (ha g e.symm).2 hm.symm
end Go.Proofs.YtjmkecaljkcoiaaGreatDoor
