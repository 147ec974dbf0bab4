/-
  Sets of processes: the contracts of Union and New.
-/
import Derived.Test.YthloamhodapmpaaQSet3
namespace Go.Proofs.Ythloamhodapmpaa
open Go.RowKit Go.Maps
set_option linter.unusedVariables false
set_option linter.unusedSimpArgs false

/-- What is there when k of l have been laid in. -/
def UniTo (l : List Pr) (acc : List Pr) (k : Nat) (acc' : List Pr) : Prop := acc' = (l.take k).foldl dedS acc
theorem UniTo.start (l acc : List Pr) : UniTo l acc 0 acc := by simp [UniTo]
theorem UniTo.step {l acc acc' : List Pr} {k : Nat} (h : UniTo l acc k acc') (hk : k < l.length) : UniTo l acc (k + 1) (dedS acc' l[k]) := by
  unfold UniTo at *
  rw [List.take_succ_eq_append_getElem hk, List.foldl_append, List.foldl_cons, List.foldl_nil, ← h]
theorem UniTo.done {l acc acc' : List Pr} {k : Nat} (h : UniTo l acc k acc') (hk : l.length ≤ k) : acc' = l.foldl dedS acc := by
  unfold UniTo at h
  rwa [List.take_of_length_le hk] at h
set_option maxRecDepth 100000 in
theorem sunion_nil (A : Option Addr) (n c : Nat) (l : List Pr) (B : Nat) (w : World) (hA : Es prC w B A n l) (hB : B ≤ w.heap.size) (hn : n ≤ maxLen) :
    Calls Try.prog 71 #[.pointer none, .slice A n c] w fun e w' => e = .returned (.int .i64 0) ∧ Below w.heap.size w w' := by
  unfold maxLen at hn
  have cn := fun p W => sadd_nil p W
  go_enter Try.func71, Try.ntmps71
  go_wp2
  go_loopw [5, 10] (fun v i wr => ∃ k : Nat, k ≤ n ∧ i = .int .i64 k ∧ v = .int .i64 0 ∧ Below w.heap.size w wr) (fun _ i _ => n - (intOf i).toNat)
  case atStart => exact ⟨0, Nat.zero_le _, rfl, rfl, Below.refl _ _⟩
  case round =>
    obtain ⟨k, hk, rfl, rfl, hb⟩ := hrel
    by_cases hlt : k < n
    · obtain ⟨ad, hl, rfl, hbl, hc⟩ := (hA.below (hb.mono hB)).at_ prOk hlt
      obtain ⟨p, hp⟩ : ∃ p, p = l[k] := ⟨_, rfl⟩
      rw [← hp] at hc
      obtain ⟨c0, c1⟩ := pr_at hc
      have hb1 : Below w.heap.size w (wr.alloc (.cells #[.int .u16 (p.i : Int), .int .u32 (p.k : Int)] 34)) := hb.alloc hb.size _
      have hz := hb1.size
      clear hp hc
      go_wp2_with fail
      refine (cn p _).mono ?_
      rintro e w1 ⟨rfl, hb2⟩
      have hb3 := hb1.trans (hb2.mono hz)
      go_wp2
      go_roundw
      case rel => exact ⟨k + 1, by omega, by go_num, rfl, hb3⟩
      case measure => simp [intOf]; omega
    · go_wp2
      go_ret
      exact ⟨rfl, hb⟩
/-- Union's answer. -/
def UnitesTo (w : World) (b : Nat) (mg : Option Nat) (acc l : List Pr) (e : Ending) (w' : World) : Prop :=
  ∃ q : Nat, e = .returned (.int .i64 (q : Int)) ∧ (l.foldl dedS acc).length = acc.length + q ∧ SetsTo w b mg (l.foldl dedS acc) w'
set_option maxRecDepth 100000 in
theorem sunion_any (b : Nat) (mg : Option Nat) (acc : List Pr) (A : Option Addr) (n c : Nat) (l : List Pr) (B : Nat) (w : World) (h : SetAt w b mg acc) (hA : Es prC w B A n l) (hB : B ≤ w.heap.size) (hBb : B ≤ b) (hBm : ∀ g, mg = some g → B ≤ g) (hn : n ≤ 1000000) (ha : acc.length ≤ 1000000) :
    Calls Try.prog 71 #[.pointer (some ⟨b, 0, none⟩), .slice A n c] w (UnitesTo w b mg acc l) := by
  have hlen := hA.len
  have HL := hide hlen
  clear hlen
  have h0 := UniTo.start l acc
  go_enter Try.func71, Try.ntmps71
  go_wp2
  go_loopw [5, 10] (fun v i wr => ∃ (k q : Nat) (mg' : Option Nat) (acc' : List Pr), k ≤ n ∧ i = .int .i64 k ∧ v = .int .i64 q ∧ q ≤ k ∧ acc'.length = acc.length + q ∧ UniTo l acc k acc' ∧ SetAt wr b mg' acc' ∧ Turn w wr b mg ∧ Mov w mg mg') (fun _ i _ => n - (intOf i).toNat)
  case atStart => exact ⟨0, 0, mg, acc, Nat.zero_le _, rfl, rfl, Nat.le_refl _, rfl, h0, h, Turn.refl _ _ _, Mov.refl _ _⟩
  case round =>
    obtain ⟨k, q, mg', acc', hk, rfl, rfl, hqk, hal, hto, hs, ht, hm⟩ := hrel
    by_cases hlt : k < n
    · have hbw := ht.below hB hBb hBm
      obtain ⟨ad, hl, rfl, hbl, hc⟩ := (hA.below hbw).at_ prOk hlt
      have hst := hto.step hl
      obtain ⟨p, hp⟩ : ∃ p, p = l[k] := ⟨_, rfl⟩
      rw [← hp] at hc hst
      obtain ⟨c0, c1⟩ := pr_at hc
      have cn := sadd_any b mg' acc' p _ (hs.alloc (.cells #[.int .u16 (p.i : Int), .int .u32 (p.k : Int)] 34)) (by unfold maxLen; omega)
      have ht1 := ht.trans (Turn.of_below ((Below.refl _ wr).alloc (Nat.le_refl _) (.cells #[.int .u16 (p.i : Int), .int .u32 (p.k : Int)] 34)) b mg') hm
      have hz1 := ht1.size
      unfold AddsTo at cn
      clear hp hc hto hs ht
      by_cases hin : p ∈ acc'
      · have e1 : dedS acc' p = acc' := if_pos hin
        rw [e1] at hst cn
        rw [decide_eq_true hin] at cn
        clear e1 hin
        go_wp2_with fail
        refine cn.mono ?_
        rintro e w1 ⟨rfl, mg2, hs2, ht2, hm2⟩
        have hR := hide (And.intro hs2 (And.intro (ht1.trans ht2 hm) (hm.trans hm2 hz1)))
        clear hs2 ht2 hm2 cn ht1 hm hz1
        go_wp2
        go_roundw
        case rel => exact ⟨k + 1, q, mg2, acc', by omega, by go_num, rfl, by omega, hal, hst, hR.out.1, hR.out.2.1, hR.out.2.2⟩
        case measure => simp [intOf]; omega
      · have e1 : dedS acc' p = acc' ++ [p] := if_neg hin
        rw [e1] at hst cn
        rw [decide_eq_false hin] at cn
        clear e1 hin
        go_wp2_with fail
        refine cn.mono ?_
        rintro e w1 ⟨rfl, mg2, hs2, ht2, hm2⟩
        have hR := hide (And.intro hs2 (And.intro (ht1.trans ht2 hm) (hm.trans hm2 hz1)))
        clear hs2 ht2 hm2 cn ht1 hm hz1
        go_wp2
        go_roundw
        case rel => exact ⟨k + 1, q + 1, mg2, acc' ++ [p], by omega, by go_num, by go_num, by omega, by simp [hal]; omega, hst, hR.out.1, hR.out.2.1, hR.out.2.2⟩
        case measure => simp [intOf]; omega
    · have hd := hto.done (by rw [HL.out]; omega)
      have HH := hide (And.intro hd (And.intro hal (And.intro hs (And.intro ht hm))))
      clear hd hto h0 hs ht hm hal
      go_wp2
      go_ret
      obtain ⟨hd, hal, hs, ht, hm⟩ := HH.out
      unfold UnitesTo
      rw [← hd]
      exact ⟨q, rfl, hal, mg', hs, ht, hm⟩
/-- A new set. -/
def NewSet (w : World) (acc : List Pr) (e : Ending) (w' : World) : Prop :=
  ∃ b mg, e = .returned (.pointer (some ⟨b, 0, none⟩)) ∧ SetAt w' b mg acc ∧ w.heap.size ≤ b ∧ (∀ g, mg = some g → w.heap.size ≤ g) ∧ Below w.heap.size w w'
theorem snew_any (A : Option Addr) (n c : Nat) (l : List Pr) (B : Nat) (w : World) (hA : Es prC w B A n l) (hB : B ≤ w.heap.size) (hn : n ≤ 1000000) :
    Calls Try.prog 49 #[.slice A n c] w (NewSet w (dedup l)) := by
  have h0 : SetAt (w.alloc (.cells #[.map none] 99)) w.heap.size none [] := ⟨heap_alloc_new w _, .inl ⟨rfl, rfl⟩⟩
  have cu := sunion_any w.heap.size none [] A n c l B _ h0 (hA.alloc hB _) (by simp; omega) hB (fun g hg => by cases hg) hn (by simp)
  unfold UnitesTo at cu
  rw [show l.foldl dedS [] = dedup l from rfl] at cu
  clear h0
  go_enter Try.func49, Try.ntmps49
  go_wp2_with fail
  refine cu.mono ?_
  rintro e w1 ⟨q, rfl, _, mg, hs, ht, hm⟩
  have hb : Below w.heap.size w w1 := ((Below.refl _ w).alloc (Nat.le_refl _) _).trans (ht.below (by simp) (Nat.le_refl _) (fun g hg => by cases hg))
  have hmm := hm.base (base := w.heap.size) (fun g hg => by cases hg) (by simp)
  have HH := hide (And.intro hs (And.intro hb hmm))
  clear hs ht hm hb hmm cu
  go_wp2
  go_ret
  exact ⟨_, mg, rfl, HH.out.1, Nat.le_refl _, HH.out.2.2, HH.out.2.1⟩
end Go.Proofs.Ythloamhodapmpaa
