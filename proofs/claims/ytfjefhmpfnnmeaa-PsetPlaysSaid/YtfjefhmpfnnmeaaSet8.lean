/-
  Sets of processes: List, a range over the set's map that gathers its keys; over the contract of pid.Sort.
-/
import Derived.Test.YtfjefhmpfnnmeaaSet7
namespace Go.Proofs.Ytfjefhmpfnnmeaa
open Go.RowKit Go.Maps
set_option linter.unusedVariables false
set_option linter.unusedSimpArgs false

/-- What of acc has come. -/
def MetP (acc ss : List Pr) (left : Lit → Bool) : Prop := ss.Nodup ∧ ∀ p : Pr, p ∈ acc ↔ (p ∈ ss ∨ left p.key = true)
def NewOnly (ss : List Pr) (left : Lit → Bool) : Prop := ∀ p : Pr, left p.key = true → p ∉ ss
theorem metP_step {acc ss : List Pr} {left : Lit → Bool} {q : Pr} (h : MetP acc ss left) (hn : NewOnly ss left) (hq : left q.key = true) : MetP acc (ss ++ [q]) (fun z => left z && !z.sameKey q.key) ∧ NewOnly (ss ++ [q]) (fun z => left z && !z.sameKey q.key) := by
  have hq2 := hn q hq
  refine ⟨⟨List.nodup_append.2 ⟨h.1, by simp, fun a ha c hc => by rw [List.mem_singleton] at hc; subst hc; exact fun e => hq2 (e ▸ ha)⟩, fun p => ?_⟩, fun p hp => ?_⟩
  · rw [h.2 p, List.mem_append, List.mem_singleton]
    show _ ↔ _ ∨ (left p.key && !p.key.sameKey q.key) = true
    rw [sameKey_pr]
    by_cases e : p = q
    · subst e; simp [hq]
    · simp [e]
  · have hp' : (left p.key && !p.key.sameKey q.key) = true := hp
    rw [sameKey_pr] at hp'
    rw [List.mem_append, List.mem_singleton]
    simp only [Bool.and_eq_true, Bool.not_eq_true', decide_eq_false_iff_not] at hp'
    exact fun e => e.elim (hn p hp'.1) hp'.2
theorem metP_end {acc ss : List Pr} {left : Lit → Bool} (h : MetP acc ss left) (hl : ∀ kl, left kl = false) : sortP ss = sortP acc :=
  rising_ext _ _ (sortP_rising _) (sortP_rising _) fun p => by rw [mem_sortP, mem_sortP, h.2 p, hl p.key]; simp
theorem metP_len {acc ss : List Pr} {left : Lit → Bool} (h : MetP acc ss left) (ha : acc.Nodup) : ss.length ≤ acc.length :=
  by
  have e : ss.length = (acc.filter fun p => decide (p ∈ ss)).length := ((List.perm_ext_iff_of_nodup h.1 (ha.filter _)).2 fun p => by
    rw [List.mem_filter, h.2 p]
    simp
    exact fun hp => .inl hp).length_eq
  rw [e]
  exact List.length_filter_le _ _
/-- The contract of pid.Sort. -/
def PSorts : Prop := ∀ (A : Option Addr) (n c : Nat) (l : List Pr) (B : Nat) (w : World), Es prC w B A n l → B ≤ w.heap.size → n ≤ 1000000 → Calls Try.prog 27 #[.slice A n c] w (MakesP w (sortP l))
theorem slist_nil (w : World) : Calls Try.prog 21 #[.pointer none] w fun e w' => e = .returned (.slice none 0 0) ∧ w = w' := by
  go_enter Try.func21, Try.ntmps21
  go_wp2
  go_ret
  exact ⟨rfl, rfl⟩
set_option maxRecDepth 100000 in
theorem slist_zero (ps : PSorts) (b : Nat) (w : World) (h : SetAt w b none []) :
    Calls Try.prog 21 #[.pointer (some ⟨b, 0, none⟩)] w (MakesP w (sortP [])) := by
  have hc := h.cell
  have hrg := run_range_nilMap (P := Try.prog) w 48 32 52 Try.underlying48
  have hnx : ∀ ty, (Instr.next (.pointer (some ⟨w.heap.size, 0, none⟩)) false ty).run Try.prog (w.alloc (.mapIter none 0 #[] 0)) = _ := fun ty => run_next_nilMap w ty 0 0 #[]
  have cs := ps none 0 0 [] (w.alloc (.mapIter none 0 #[] 0)).heap.size (w.alloc (.mapIter none 0 #[] 0)) Es.none_ (Nat.le_refl _) (by decide)
  have hb := (Below.refl _ w).alloc (Nat.le_refl _) (.mapIter none 0 #[] 0)
  have hz := hb.size
  have HB := hide (And.intro hb hz)
  clear hb hz
  generalize sortP [] = s at *
  go_enter Try.func21, Try.ntmps21
  go_wp2
  refine wp_loop_rounds 1 ?_
  rw [rounds_succ]
  go_wp2_with fail
  refine cs.mono ?_
  rintro e w2 ⟨A2, c2, rfl, ho, hb2⟩
  have HH := hide (And.intro (OwnE.mono ho HB.out.2) (HB.out.1.trans (hb2.mono HB.out.2)))
  clear ho hb2 cs
  go_wp2
  go_ret
  exact ⟨A2, c2, rfl, HH.out.1, HH.out.2⟩
set_option maxRecDepth 100000 in
set_option maxHeartbeats 1000000 in
theorem slist_some (ps : PSorts) (b g : Nat) (acc : List Pr) (w : World) (h : SetAt w b (some g) acc) (ha : acc.length ≤ 1000000) :
    Calls Try.prog 21 #[.pointer (some ⟨b, 0, none⟩)] w (MakesP w (sortP acc)) := by
  have hc := h.cell
  have hnd := h.nodup
  obtain ⟨s, hs⟩ : ∃ s, s = sortP acc := ⟨_, rfl⟩
  rw [← hs]
  have HS := hide hs
  clear hs
  obtain ⟨hglt, hgb⟩ := h.mlt g rfl
  obtain ⟨D, hD0, hR0⟩ := h.dom.rd
  obtain ⟨i0, hi, hz0, hz1, hz2⟩ := info_parts info_pid
  go_enter Try.func21, Try.ntmps21
  go_wp2_with (at_range; refine wpList_range_own _ rfl _ 48 rfl 32 52 lawPid Try.underlying48 unitElem g acc.length D rfl hD0 ?_; intro w0 hrg0 hg0 hs0)
  go_frame
  have k0 : MetP acc [] (Maps.has D) := ⟨List.nodup_nil, fun p => by rw [hR0.1 p]; simp⟩
  have k1 : NewOnly [] (Maps.has D) := fun p _ => by simp
  have hb0 : Below w.heap.size w w0 := ⟨hg0.os, hg0.tape, hg0.output, hg0.size, fun i hi => hg0.block i hi (fun e => by cases e)⟩
  have hr1 : w.heap.size + 1 ≤ w0.heap.size := by omega
  have HX := hide (And.intro k0 (And.intro k1 (And.intro hb0 hr1)))
  clear k0 k1 hb0 hr1 hg0 hs0 hD0 hc
  go_loopw [3] (fun v wr => ∃ (left : Lit → Bool) (cnt : Nat) (ss : List Pr) (A' : Option Addr) (c' : Nat), v = .slice A' ss.length c' ∧ wr.ranges Try.prog 32 unitElem g w.heap.size acc.length D left cnt ∧ MetP acc ss left ∧ NewOnly ss left ∧ OwnP wr (w.heap.size + 1) (.slice A' ss.length c') ss.length ss ∧ Below w.heap.size w wr ∧ w.heap.size + 1 ≤ wr.heap.size) (fun _ wr => wr.rangeLeft g w.heap.size)
  case atStart => exact ⟨_, _, [], none, 0, rfl, hrg0, HX.out.1, HX.out.2.1, OwnE.nil_ _ _, HX.out.2.2.1, HX.out.2.2.2⟩
  case round =>
    obtain ⟨left, cnt, ss, A', c', rfl, hrg, hmet, hnew, hown, hb, hsz⟩ := hrel
    have hsl := metP_len hmet hnd
    go_wp2_with (at_next; refine wpList_next_ranges _ rfl _ rfl 32 lawPid unitElem (fun p : Pr => .agg #[.int .u16 (p.i : Int), .int .u32 (p.k : Int)]) (fun _ : Unit => .agg #[]) (fun key kl hk => by obtain ⟨p, e, _⟩ := key_inv hk; exact ⟨p, e⟩) (fun v y hv => by obtain ⟨e, _⟩ := unitElem_inv hv; exact ⟨(), e⟩) g w.heap.size acc.length _ _ _ rfl hrg ?_ ?_)
    · intro hc0 hl0
      have cs := ps A' ss.length c' ss wr.heap.size wr (OwnE.es prOk hown) (Nat.le_refl _) (by omega)
      rw [metP_end hmet hl0, ← HS.out] at cs
      have HB := hide hb
      have hz := hb.size
      clear hl0 hc0 hmet hnew hrg hown hb
      go_wp2_with fail
      refine cs.mono ?_
      rintro e w2 ⟨A2, c2, rfl, ho, hb2⟩
      have HH := hide (And.intro (OwnE.mono ho hz) (HB.out.trans (hb2.mono hz)))
      clear ho hb2 cs
      go_wp2
      go_ret
      exact ⟨A2, c2, rfl, HH.out.1, HH.out.2⟩
    · intro x kl yd yp w2 cnt2 hkey hlk hv hat hrg2 hlt hg2 hs2 hen
      obtain ⟨p, ex, rfl⟩ := key_inv hkey
      obtain rfl : x = p := prV_inj ex
      obtain ⟨hmet2, hnew2⟩ := metP_step hmet hnew hlk
      have hb2 : Below w.heap.size w w2 := hb.grown hg2 hb.size (fun j hj => by injection hj with hj; omega)
      have hown2 : OwnP w2 (w.heap.size + 1) (.slice A' ss.length c') ss.length ss := hown.grown hg2 (Nat.lt_succ_self _)
      have hz2' : w.heap.size + 1 ≤ w2.heap.size := Nat.le_trans hsz hg2.size
      have HM := hide (And.intro hmet2 (And.intro hnew2 hrg.left_eq))
      have HB := hide hb2
      have d0 : (w2.alloc (.cells #[.int .u16 (x.i : Int), .int .u32 (x.k : Int)] 32)).cell? ⟨w2.heap.size, 0, none⟩ = some (.int .u16 (x.i : Int)) := by go_simp
      have d1 : (w2.alloc (.cells #[.int .u16 (x.i : Int), .int .u32 (x.k : Int)] 32)).cell? ⟨w2.heap.size, 1, none⟩ = some (.int .u32 (x.k : Int)) := by go_simp
      have hes : Es prC ((w2.alloc (.cells #[.int .u16 (x.i : Int), .int .u32 (x.k : Int)] 32)).alloc (.cells #[.int .u16 (x.i : Int), .int .u32 (x.k : Int)] 32)) (w2.heap.size + 2) (some ⟨w2.heap.size + 1, 0, none⟩) 1 [x] := by
        have h9 := es_lit (w2.alloc (.cells #[.int .u16 (x.i : Int), .int .u32 (x.k : Int)] 32)) x 32
        simp only [World.size_alloc] at h9
        exact h9
      clear hmet hnew hmet2 hnew2 hb2 hb hown hg2 hs2 hv hat hkey ex hrg
      go_wp2_with (at_builtin; refine wp_append_e _ rfl (.tmp 16) (.tmp 18) 22 rfl 32 i0 _ 8 Try.underlying22 hi hz0 hz1 hz2 rfl prOk (w.heap.size + 1) ss.length _ ss rfl ((hown2.alloc _).alloc _) (w2.heap.size + 2) _ 1 1 [x] rfl hes (by unfold maxLen; omega) (by omega) w.heap.size w ((HB.out.alloc HB.out.size _).alloc (by have := HB.out.size; simp; omega) _) (Nat.le_succ _) (by simp; omega) ?_; intro A3 c3 w3 r1 r2 r3 r4; refine Hid.out ?_)
      refine Lib.hid ?_
      have q1 : OwnP w3 (w.heap.size + 1) (.slice A3 (ss.length + 1) c3) (ss.length + 1) (ss ++ [x]) := r1
      have hg4 : ((w2.alloc (.cells #[.int .u16 (x.i : Int), .int .u32 (x.k : Int)] 32)).alloc (.cells #[.int .u16 (x.i : Int), .int .u32 (x.k : Int)] 32)).grownBy w3 (Value.slice A' ss.length c').ownBlock := r4
      have hne : some g ≠ (Value.slice A' ss.length c').ownBlock := fun e => by have := (OwnE.lt hown2 g e.symm).1; omega
      have hne2 : some w.heap.size ≠ (Value.slice A' ss.length c').ownBlock := fun e => by have := (OwnE.lt hown2 _ e.symm).1; omega
      have hrg4 := ((hrg2.alloc (.cells #[.int .u16 (x.i : Int), .int .u32 (x.k : Int)] 32)).alloc (.cells #[.int .u16 (x.i : Int), .int .u32 (x.k : Int)] 32)).kept hg4 hne hne2
      have hz4 : w.heap.size + 1 ≤ w3.heap.size := by simp at r3; omega
      have el : (ss ++ [x]).length = ss.length + 1 := by simp
      have HR := hide (And.intro q1 (And.intro hrg4 (And.intro r2 (And.intro hz4 el))))
      clear q1 hg4 hne hne2 hrg4 r1 r2 r3 r4 hz4 el hown2 d0 d1 hrg2 hes hen
      go_wp2_with fail
      go_roundw
      case rel =>
        obtain ⟨q1, hrg4, r2, hz4, el⟩ := HR.out
        exact ⟨_, cnt2, ss ++ [x], A3, c3, by rw [el], hrg4, HM.out.1, HM.out.2.1, by rw [el]; exact q1, r2, hz4⟩
      case measure => rw [HR.out.2.1.left_eq, HM.out.2.2]; exact hlt
theorem slist_with (ps : PSorts) (b : Nat) (mg : Option Nat) (acc : List Pr) (w : World) (h : SetAt w b mg acc) (ha : acc.length ≤ 1000000) :
    Calls Try.prog 21 #[.pointer (some ⟨b, 0, none⟩)] w (MakesP w (sortP acc)) := by
  rcases h.2 with ⟨rfl, rfl⟩ | ⟨g, rfl, _⟩
  · exact slist_zero ps b w h
  · exact slist_some ps b g acc w h ha
end Go.Proofs.Ytfjefhmpfnnmeaa
