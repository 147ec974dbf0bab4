/-
  Rows of bytes and what may be turned: an append whose row's block is told; clones.
-/
import Derived.WalkSpells
import Derived.Lib.SliceRun
import Derived.Test.YtdmihbicpjmgjaaQTurn
import Derived.Test.YtdmihbicpjmgjaaQBytes1
namespace Go.Proofs.Ytdmihbicpjmgjaa
open Go.RowKit
set_option linter.unusedVariables false
set_option linter.unusedSimpArgs false

set_option maxRecDepth 100000 in
/-- 'append(out, xs...)' of any bytes: the row's block is the one it was, or new; nothing else turns. -/
theorem run_bytes_mov (w : World) (ty : TypeId) (base k : Nat) (v : Value) (l : List UInt8) (hown : OwnB w base v k l)
    (B : Nat) (A : Option Addr) (m c : Nat) (l2 : List UInt8) (hr : Bs w B A m l2) (b1 : k + m ≤ 140737488355328) (hBw : base ≤ w.heap.size) :
    ∃ v' w', (Builtin.append_ #[27, 27] ty #[v, .slice A m c]).run Try.prog w = .ok v' w' ∧ OwnB w' base v' (k + m) (l ++ l2) ∧ w.grownBy w' v.ownBlock ∧ Mov w v.ownBlock v'.ownBlock := by
  obtain ⟨i0, hi, hz0, hz1, hz2⟩ := info_parts info_u8
  rcases A with _ | ad
  · have hm : m = 0 := by
      by_cases h : 0 < m
      · obtain ⟨ad, e, _⟩ := hr.2 h
        cases e
      · omega
    subst hm
    obtain rfl : l2 = [] := List.eq_nil_of_length_eq_zero hr.len
    exact ⟨v, w, run_append_of_nil w base _ _ 5 i0 1 Try.underlying27 hi v k _ hown c, by simpa using hown, World.grownBy.refl _ _, Mov.refl _ _⟩
  · have hl2 : (bvs l2).length = m * 1 := by rw [bvs_len, hr.len]; omega
    have hc : ∀ j u, (bvs l2)[j]? = some u → w.cell? (ad.add j) = some u := by
      intro j u hu
      by_cases hm : 0 < m
      · obtain ⟨ad', e, _, hc⟩ := hr.2 hm
        injection e with e
        subst e
        rw [bvs, List.getElem?_map, Option.map_eq_some_iff] at hu
        obtain ⟨x, hx, rfl⟩ := hu
        exact hc j x hx
      · obtain rfl : l2 = [] := List.eq_nil_of_length_eq_zero (by rw [hr.len]; omega)
        simp [bvs] at hu
    obtain ⟨v', w', h1, h2, h3, h4⟩ := run_append_own (P := Try.prog) w base 27 ty 5 i0 _ 1 1 Try.underlying27 hi hz0 hz1 hz2 rfl (by decide) v k _ hown ad m c (bvs l2) hl2 hc (bvs_one l2) (by unfold maxLen; omega) (by omega) hBw
    refine ⟨v', w', h1, by unfold OwnB; rw [bvs_append]; exact h2, h3, ?_⟩
    rcases hown.2 with ⟨rfl, rfl⟩ | ⟨g, cap, cur, rfl, hbg, hg, hnc, hcm, hcs, htake⟩
    · by_cases hm : m = 0
      · subst hm
        obtain rfl := h4.2 ⟨rfl, rfl⟩
        exact Mov.refl _ _
      · have hrun := run_append_nil (P := Try.prog) w 27 ty 5 i0 _ Try.underlying27 hi hz0 ad m c (bvs l2) (by rw [hl2, hz1]) hc (by omega) (by omega) (by rw [hz2]; omega)
        rw [h1] at hrun
        injection hrun with e1 e2
        subst e1
        exact .inr ⟨_, rfl, Nat.le_refl _⟩
    · by_cases hroom : k + m ≤ cap
      · have hrun := run_append_room (P := Try.prog) w 27 ty 5 i0 Try.underlying27 hi g k cap cur hg ad m c (bvs l2) (by rw [hl2, hz1]) hc (bvs_one l2) hroom (by rw [hz1, hl2, hcs]; omega)
        rw [h1] at hrun
        injection hrun with e1 e2
        subst e1
        exact Mov.refl _ _
      · have holds : ∀ j u, (bvs l)[j]? = some u → w.cell? ((⟨g, 0, none⟩ : Addr).add j) = some u := World.ownsRow.cells (g := g) hown rfl
        have hrun := run_append_grow (P := Try.prog) w 27 ty 5 i0 _ Try.underlying27 hi hz0 ⟨g, 0, none⟩ k cap (bvs l) (by rw [hown.1, hz1]) holds ad m c (bvs l2) (by rw [hl2, hz1]) hc (by omega) (by omega) (growslice_fits (by omega) (by rw [hz2]; omega))
        rw [h1] at hrun
        injection hrun with e1 e2
        subst e1
        exact .inr ⟨_, rfl, Nat.le_refl _⟩
theorem wp_bytes_mov {ops : Array Oper} {rest : List Oper} {o : Oper} {a : Act} {Q : Exit → Act → World → Prop} (w : World) (hg : o.guard = none) (s x : Operand)
    (hop : o.op = Op.call { callee := Callee.builtin Builtin.append, args := #[s, x], argTypes := #[27, 27] })
    (base k : Nat) (v : Value) (l : List UInt8) (hs : a.eval s = v) (hown : OwnB w base v k l)
    (B : Nat) (A : Option Addr) (m c : Nat) (l2 : List UInt8) (hx : a.eval x = .slice A m c) (hr : Bs w B A m l2) (b1 : k + m ≤ 140737488355328) (hBw : base ≤ w.heap.size)
    (hK : ∀ A' c' w', OwnB w' base (.slice A' (k + m) c') (k + m) (l ++ l2) → w.grownBy w' v.ownBlock → Mov w v.ownBlock (Value.slice A' (k + m) c').ownBlock → wpList Try.prog ops Q rest (a.put o.dst (.slice A' (k + m) c')) w') :
    wpList Try.prog ops Q (o :: rest) a w := by
  refine wpList_plain hg fun K hK' => ?_
  obtain ⟨v', w', hrun, r1, r2, r3⟩ := run_bytes_mov w o.type base k v l hown B A m c l2 hr b1 hBw
  obtain ⟨A', c', rfl⟩ := r1.shape
  unfold Oper.wp
  simp [execOp, hop, resolve, invoke, builtin, hs, hx, hrun, Result.andThen]
  exact hK' _ _ (hK _ _ w' r1 r2 r3)

/-- bytes.Clone: new memory that holds the same. -/
theorem clone_any (A : Option Addr) (n c : Nat) (l : List UInt8) (B : Nat) (w : World) (hA : Bs w B A n l) (hB : B ≤ w.heap.size) (hn : n ≤ 140737488355328) :
    Calls Try.prog 35 #[.slice A n c] w fun e w' => ∃ A' c', e = .returned (.slice A' n c') ∧ OwnB w' w.heap.size (.slice A' n c') n l ∧ Below w.heap.size w w' := by
  have q := fun (w : World) (a : Option Addr) (n c n' c' : Nat) => Lib.run_eql_slice_nil (P := Try.prog) w 27 _ a n c n' c' Try.underlying27
  rcases A with _ | ad
  · have hm : n = 0 := by
      by_cases h : 0 < n
      · obtain ⟨ad, e, _⟩ := hA.2 h
        cases e
      · omega
    subst hm
    obtain rfl : l = [] := List.eq_nil_of_length_eq_zero hA.len
    go_enter Try.func35, Try.ntmps35
    go_wp2
    go_ret
    exact ⟨_, _, rfl, OwnB.nil_ _ _, Below.refl _ _⟩
  · go_enter Try.func35, Try.ntmps35
    go_wp2_with (at_builtin; refine wp_bytes_own _ rfl (.tmp 5) (.tmp 6) rfl w.heap.size 0 _ [] rfl (own_lit w w.heap.size 0 [] _ rfl rfl (by decide) (Nat.le_refl _)) _ _ n _ l rfl (hA.alloc hB _) (by omega) w.heap.size w ((Below.refl _ _).alloc (Nat.le_refl _) _) (Nat.le_refl _) (by simp) ?_)
    intro A' c' w' hO hb hsz
    try simp only [Nat.zero_add, List.nil_append] at hO
    go_wp2
    go_ret

    exact ⟨_, _, rfl, hO, hb⟩
/-- A row of the call's own that isn't the Writer's. -/
def Apart (v : Value) (b : Nat) (mg : Option Nat) : Prop := ∀ g, v.ownBlock = some g → g ≠ b ∧ some g ≠ mg
theorem OwnB.turn {w w' : World} {base b n : Nat} {mg : Option Nat} {v : Value} {l : List UInt8} (h : OwnB w base v n l) (ht : Turn w w' b mg) (ha : Apart v b mg) : OwnB w' base v n l := by
  refine ⟨h.1, ?_⟩
  rcases h.2 with h0 | ⟨g, cap, cur, rfl, hb, hh, r⟩
  · exact .inl h0
  · obtain ⟨h1, h2⟩ := ha g rfl
    exact .inr ⟨g, cap, cur, rfl, hb, (ht.block g (lt_of_heap hh) h1 h2).trans hh, r⟩
theorem Apart.mov {w : World} {base b n : Nat} {mg mg' : Option Nat} {v : Value} {l : List UInt8} (ha : Apart v b mg) (h : OwnB w base v n l) (hm : Mov w mg mg') : Apart v b mg' := by
  intro g hg
  refine ⟨(ha g hg).1, fun e => ?_⟩
  have hlt := (h.lt g hg).2
  rcases hm with rfl | ⟨g', rfl, hg'⟩
  · exact (ha g hg).2 e
  · injection e with e; omega
end Go.Proofs.Ytdmihbicpjmgjaa
