/-
  Two sets side by side; a union with what is there already; the words of a region that makes sets.
-/
import Derived.Test.YtfjefhmpfnnmeaaSet9
import Derived.Test.YtfjefhmpfnnmeaaFlow
namespace Go.Proofs.Ytfjefhmpfnnmeaa
open Go.RowKit Go.Maps
set_option linter.unusedVariables false
set_option linter.unusedSimpArgs false

theorem dedS_in {acc : List Pr} {p : Pr} (h : p ∈ acc) : dedS acc p = acc := if_pos h
theorem fold_in : ∀ (l acc : List Pr), (∀ p ∈ l, p ∈ acc) → l.foldl dedS acc = acc
  | [], _, _ => rfl
  | p :: r, acc, h => by
    rw [List.foldl_cons, dedS_in (h p (List.mem_cons_self ..))]
    exact fold_in r acc fun q hq => h q (List.mem_cons_of_mem _ hq)
theorem mem_fold (l acc : List Pr) (h : acc.Nodup) (p : Pr) : p ∈ l.foldl dedS acc ↔ p ∈ l ∨ p ∈ acc := (dedup_fold l acc h).2 p
set_option maxRecDepth 100000 in
theorem sunion_in (b : Nat) (mg : Option Nat) (acc : List Pr) (A : Option Addr) (n c : Nat) (l : List Pr) (B : Nat) (w : World) (h : SetAt w b mg acc) (hA : Es prC w B A n l) (hB : B ≤ w.heap.size) (hn : n ≤ maxLen) (hl : ∀ p ∈ l, p ∈ acc) :
    Calls Try.prog 15 #[.pointer (some ⟨b, 0, none⟩), .slice A n c] w fun e w' => e = .returned (.int .i64 0) ∧ Below w.heap.size w w' := by
  unfold maxLen at hn
  have HL := hide hl
  clear hl
  go_enter Try.func15, Try.ntmps15
  go_wp2
  go_loopw [5, 10] (fun v i wr => ∃ k : Nat, k ≤ n ∧ i = .int .i64 k ∧ v = .int .i64 0 ∧ Below w.heap.size w wr) (fun _ i _ => n - (intOf i).toNat)
  case atStart => exact ⟨0, Nat.zero_le _, rfl, rfl, Below.refl _ _⟩
  case round =>
    obtain ⟨k, hk, rfl, rfl, hb⟩ := hrel
    by_cases hlt : k < n
    · obtain ⟨ad, hl, rfl, hbl, hc⟩ := (hA.below (hb.mono hB)).at_ prOk hlt
      obtain ⟨p, hp⟩ : ∃ p, p = l[k] := ⟨_, rfl⟩
      have hpa : p ∈ acc := HL.out p (by rw [hp]; exact List.getElem_mem hl)
      rw [← hp] at hc
      obtain ⟨c0, c1⟩ := pr_at hc
      have hb1 : Below w.heap.size w (wr.alloc (.cells #[.int .u16 (p.i : Int), .int .u32 (p.k : Int)] 32)) := hb.alloc hb.size _
      have hz := hb1.size
      have cn := sadd_in b mg acc p _ (h.later hb1) hpa
      clear hp hc hpa
      go_wp2_with fail
      refine cn.mono ?_
      rintro e w1 ⟨rfl, hb2⟩
      have hb3 := hb1.trans (hb2.mono hz)
      go_wp2
      go_roundw
      case rel => exact ⟨k + 1, by omega, by go_num, rfl, hb3⟩
      case measure => simp [intOf]; omega
    · go_wp2
      go_ret
      exact ⟨rfl, hb⟩
section
variable {w w' : World} {b1 b2 : Nat} {mg1 mg2 : Option Nat} {a1 a2 l : List Pr}
theorem SetD.same_block {g : Nat} (h1 : SetD w g a1) (h2 : SetD w g a2) (p : Pr) : p ∈ a1 ↔ p ∈ a2 := by
  obtain ⟨D1, ⟨es1, k1, e1, _, _, q1⟩, x1, _⟩ := h1
  obtain ⟨D2, ⟨es2, k2, e2, _, _, q2⟩, x2, _⟩ := h2
  rw [e1] at e2
  injection e2 with e2
  injection e2 with e2 _
  subst e2
  rw [← q2] at q1
  subst q1
  have e := (x1 p).symm.trans (x2 p)
  exact decide_eq_decide.1 e
/-- Two sets share nothing, or they are of the same processes. -/
theorem SetAt.apart (h1 : SetAt w b1 mg1 a1) (h2 : SetAt w b2 mg2 a2) : (b1 ≠ b2 ∧ ∀ g, mg1 = some g → mg2 ≠ some g) ∨ ∀ p, p ∈ a1 ↔ p ∈ a2 := by
  have hshare : ∀ g, mg1 = some g → mg2 = some g → ∀ p, p ∈ a1 ↔ p ∈ a2 := by
    intro g e1 e2 p
    subst e1; subst e2
    have d1 : SetD w g a1 := by
      rcases h1.2 with ⟨h0, _⟩ | ⟨g', h0, hd⟩
      · cases h0
      · injection h0 with e; subst e; exact hd
    have d2 : SetD w g a2 := by
      rcases h2.2 with ⟨h0, _⟩ | ⟨g', h0, hd⟩
      · cases h0
      · injection h0 with e; subst e; exact hd
    exact d1.same_block d2 p
  by_cases hb : b1 = b2
  · subst hb
    have e := h1.1.symm.trans h2.1
    simp at e
    subst e
    refine .inr fun p => ?_
    rcases h1.2 with ⟨h0, e1⟩ | ⟨g, h0, _⟩
    · rcases h2.2 with ⟨_, e2⟩ | ⟨g, h3, _⟩
      · rw [e1, e2]
      · rw [h0] at h3; cases h3
    · exact hshare g h0 h0 p
  · by_cases hg : ∃ g, mg1 = some g ∧ mg2 = some g
    · obtain ⟨g, e1, e2⟩ := hg
      exact .inr (hshare g e1 e2)
    · exact .inl ⟨hb, fun g e1 e2 => hg ⟨g, e1, e2⟩⟩
theorem SetAt.turn (h1 : SetAt w b1 mg1 a1) (h2 : SetAt w b2 mg2 a2) (hd : b1 ≠ b2 ∧ ∀ g, mg1 = some g → mg2 ≠ some g) (ht : Turn w w' b2 mg2) : SetAt w' b1 mg1 a1 := by
  refine h1.keep (ht.block b1 h1.lt hd.1 fun e => ?_) fun g hg => ht.block g (h1.mlt g hg).1 (fun e => ?_) fun e => hd.2 g hg e.symm
  · rcases h2.2 with ⟨h0, _⟩ | ⟨g, h0, D, ⟨es, k, e2, _⟩, _⟩
    · rw [h0] at e; cases e
    · rw [h0] at e
      injection e with e
      subst e
      rw [h1.1] at e2
      cases e2
  · subst hg
    subst e
    rcases h1.2 with ⟨h0, _⟩ | ⟨g', h0, D, ⟨es, k, e2, _⟩, _⟩
    · cases h0
    · injection h0 with h0
      subst h0
      rw [h2.1] at e2
      cases e2
/-- A union with what another set has: that one stays. -/
theorem sunion_beside (A : Option Addr) (n c : Nat) (B : Nat) (h1 : SetAt w b1 mg1 a1) (h2 : SetAt w b2 mg2 a2) (hA : Es prC w B A n l) (hB : B ≤ w.heap.size) (hBb : B ≤ b2) (hBm : ∀ g, mg2 = some g → B ≤ g) (hn : n ≤ 1000000) (ha : a2.length ≤ 1000000)
    (hl : ∀ p ∈ l, p ∈ a1) : Calls Try.prog 15 #[.pointer (some ⟨b2, 0, none⟩), .slice A n c] w fun e w' => UnitesTo w b2 mg2 a2 l e w' ∧ SetAt w' b1 mg1 a1 := by
  rcases h1.apart h2 with hd | hs
  · exact (sunion_any b2 mg2 a2 A n c l B w h2 hA hB hBb hBm hn ha).mono fun e w' hu => ⟨hu, by
      obtain ⟨q, _, _, mg', _, ht, _⟩ := hu
      exact h1.turn h2 hd ht⟩
  · have hin : ∀ p ∈ l, p ∈ a2 := fun p hp => (hs p).1 (hl p hp)
    have ef := fold_in l a2 hin
    exact (sunion_in b2 mg2 a2 A n c l B w h2 hA hB (by unfold maxLen; omega) hin).mono fun e w' ⟨he, hb⟩ => ⟨⟨0, he, by rw [ef]; rfl, mg2, by rw [ef]; exact h2.later hb, Turn.of_below hb _ _, Mov.refl _ _⟩, h1.later hb⟩
end
/-- A pointer to a set of the call's own. -/
def SetW (base : Nat) (acc : List Pr) (v : Value) (w : World) : Prop := ∃ b mg, v = .pointer (some ⟨b, 0, none⟩) ∧ SetAt w b mg acc ∧ base ≤ b ∧ ∀ g, mg = some g → base ≤ g
theorem setW_steady (base : Nat) (acc : List Pr) : Steady (SetW base acc) := fun v w w' ⟨b, mg, e, h, hb, hm⟩ hbel => ⟨b, mg, e, h.later hbel, hb, hm⟩
/-- A slice of processes from before. -/
def RowW (B n : Nat) (l : List Pr) (v : Value) (w : World) : Prop := ∃ A c, v = .slice A n c ∧ Es prC w B A n l ∧ B ≤ w.heap.size
theorem rowW_steady (B n : Nat) (l : List Pr) : Steady (RowW B n l) := fun v w w' ⟨A, c, e, h, hB⟩ hbel => ⟨A, c, e, h.below (hbel.mono hB), Nat.le_trans hB hbel.size⟩
theorem new_word {B n base : Nat} {l : List Pr} {v : Value} {w : World} (h : RowW B n l v w) (hn : n ≤ 1000000) (hb : base ≤ w.heap.size) : Calls Try.prog 9 #[v] w fun e w' => ∃ u, e = .returned u ∧ Below w.heap.size w w' ∧ SetW base (dedup l) u w' := by
  obtain ⟨A, c, rfl, hA, hB⟩ := h
  exact (snew_any A n c l B w hA hB hn).mono fun e w' ⟨b, mg, he, hs, h1, h2, hbel⟩ => ⟨_, he, hbel, b, mg, rfl, hs, Nat.le_trans hb h1, fun g hg => Nat.le_trans hb (h2 g hg)⟩
end Go.Proofs.Ytfjefhmpfnnmeaa
