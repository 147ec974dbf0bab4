/-
  Processes sorted: the contract of the document's Sort.
-/
import Derived.Test.YtfjefhmpfnnmeaaSort4
import Derived.Test.YtfjefhmpfnnmeaaReg1
namespace Go.Proofs.Ytfjefhmpfnnmeaa
open Go.RowKit
set_option linter.unusedVariables false
set_option linter.unusedSimpArgs false

/-- What the loop has laid in. -/
def SrtTo (l : List Pr) (k : Nat) (acc : List Pr) : Prop := acc = sortP (l.take k)
theorem SrtTo.start (l : List Pr) : SrtTo l 0 [] := by simp [SrtTo, sortP]
theorem SrtTo.step {l acc : List Pr} {k : Nat} (h : SrtTo l k acc) (hk : k < l.length) : SrtTo l (k + 1) (insS acc l[k]) := by
  unfold SrtTo at *
  rw [List.take_succ_eq_append_getElem hk, sortP_snoc, ← h]
theorem SrtTo.done {l acc : List Pr} {k : Nat} (h : SrtTo l k acc) (hk : l.length ≤ k) : acc = sortP l := by
  unfold SrtTo at h
  rwa [List.take_of_length_le hk] at h
theorem Es.cut' {α : Type} {enc : α → List Value} {k : Nat} {w : World} {B n : Nat} {ad : Addr} {l : List α} (H : EncOk enc k) (h : Es enc w B (some ad) n l) {m : Nat} (hm : m ≤ n) : Es enc w B (some (ad.add (m * k))) (n - m) (l.drop m) := by
  by_cases hlt : m < n
  · exact h.cut H hm hlt
  · exact ⟨by rw [List.length_drop, h.1], fun h' => absurd h' (by omega)⟩
theorem Es.zero {α : Type} {enc : α → List Value} {w : World} {B n m : Nat} {A A' : Option Addr} {l : List α} (h : Es enc w B A n l) (h0 : n ≤ m) : Es enc w B A' (n - m) (l.drop m) := ⟨by rw [List.length_drop, h.1], fun h' => absurd h' (by omega)⟩
theorem OwnE.none_ {α : Type} {enc : α → List Value} {k : Nat} {T : TypeId} {w : World} {base n c : Nat} {l : List α} (h : OwnE T enc k w base (.slice none n c) n l) : n = 0 ∧ c = 0 := by
  rcases h.2 with ⟨hv, h0⟩ | ⟨g, cap, cur, hv, _⟩
  · injection hv with _ _ hc; exact ⟨h0, hc⟩
  · injection hv with e; cases e
set_option maxRecDepth 100000 in
set_option maxHeartbeats 1000000 in
theorem rsort_any (A : Option Addr) (n c : Nat) (l : List Pr) (B : Nat) (w : World) (hA : Es prC w B A n l) (hB : B ≤ w.heap.size) (hn : n ≤ 1000000) :
    Calls Try.prog 10 #[.slice A n c] w (MakesP w (sortP l)) := by
  have hlen := hA.len
  have HL := hide hlen
  clear hlen
  obtain ⟨i0, hi, hz0, hz1, hz2⟩ := info_parts info_pid
  have h0 := SrtTo.start l
  go_enter Try.func10, Try.ntmps10
  go_wp2
  go_loopw [3, 4] (fun v i wr => ∃ (k : Nat) (A' : Option Addr) (q c' : Nat) (acc : List Pr), k ≤ n ∧ i = .int .i64 k ∧ v = .slice A' q c' ∧ q ≤ k ∧ SrtTo l k acc ∧ OwnP wr w.heap.size (.slice A' q c') q acc ∧ Below w.heap.size w wr) (fun _ i _ => n - (intOf i).toNat)
  case atStart => exact ⟨0, none, 0, 0, [], Nat.zero_le _, rfl, rfl, Nat.le_refl _, h0, OwnE.nil_ _ _, Below.refl _ _⟩
  case round =>
    obtain ⟨k, A', q, c', acc, hk, rfl, rfl, hqk, hto, hown, hb⟩ := hrel
    have hsz := hb.size
    by_cases hlt : k < n
    · have hAr := hA.below (hb.mono hB)
      obtain ⟨ad, hl, rfl, hbl, hc⟩ := hAr.at_ prOk hlt
      have hst := hto.step hl
      obtain ⟨p, hp⟩ : ∃ p, p = l[k] := ⟨_, rfl⟩
      rw [← hp] at hc hst
      obtain ⟨c0, c1⟩ := pr_at hc
      clear hp hc
      have hcap := OwnE.cap hown
      have hes := OwnE.es prOk hown
      have ch := has_any A' q c' acc wr.heap.size p wr hes (Nat.le_refl _) (by omega)
      have hqc := hcap.1
      have hnn : A' = none → q = 0 ∧ c' = 0 := by rintro rfl; exact OwnE.none_ hown
      have HN := hide hnn
      clear hnn
      clear hcap
      have z1 : (0 : Int) ≤ (k : Int) := by omega
      have z2 : (k : Int) < (n : Int) := by omega
      by_cases hin : p ∈ acc
      · rw [decide_eq_true hin] at ch
        have e1 : insS acc p = acc := if_pos hin
        rw [e1] at hst
        clear e1 hin
        go_wp2_with fail
        refine ch.mono ?_
        rintro _ w1 ⟨rfl, hb1⟩
        go_wp2
        go_roundw
        case rel => exact ⟨k + 1, A', q, c', acc, by omega, by go_num, rfl, by omega, hst, OwnE.later hown hb1, hb.trans (hb1.mono hsz)⟩
        case measure => simp [intOf]; omega
      · rw [decide_eq_false hin] at ch
        have e1 : insS acc p = insP p acc := if_neg hin
        rw [e1, ← insP_pos] at hst
        clear e1 hin
        have hp0 := PosTo.start p acc
        go_wp2_with fail
        refine ch.mono ?_
        rintro _ w1 ⟨rfl, hb1⟩
        have hes1 := hes.below hb1
        have hA1 : Es prC w1 B (some ad) n l := hAr.below (hb1.mono (Nat.le_trans hB hsz))
        have f0 := (hb1.cell (by rw [block_of_add]; omega)).trans c0
        have f1 := (hb1.cell (by show (ad.add (k * 2)).block < _; rw [block_of_add]; omega)).trans c1
        have hbw := hb.trans (hb1.mono hsz)
        have hs1 := hb1.size
        clear c0 c1 hb1 ch hA hAr hown hes hb
        go_wp2
        go_loopw [5] (fun v wx => ∃ a : Nat, a ≤ q ∧ v = .int .i64 a ∧ PosTo p acc a ∧ Below w1.heap.size w1 wx) (fun v _ => q - (intOf v).toNat)
        case atStart => exact ⟨0, Nat.zero_le _, rfl, hp0, Below.refl _ _⟩
        case round =>
          obtain ⟨a, ha, rfl, hpos, hbx⟩ := hrel
          have hesx := hes1.below (hbx.mono hs1)
          have hAx : Es prC wr B (some ad) n l := hA1.below (hbx.mono (by omega))
          have g0 := (hbx.cell (by rw [block_of_add]; omega)).trans f0
          have g1 := (hbx.cell (by show (ad.add (k * 2)).block < _; rw [block_of_add]; omega)).trans f1
          have g2 := Later.cellAt g0
          have g3 := Later.cellAt g1
          have hbw2 := hbw.trans (hbx.mono (by have := hbw.size; omega))
          have hsx := hbx.size
          by_cases hgo : ∃ h : a < acc.length, acc[a].ahead p = true
          · obtain ⟨hla, hah⟩ := hgo
            have hpos' := hpos.step hla hah
            have haq : a < q := by rw [← hes1.len]; exact hla
            obtain ⟨ad', hl', rfl, hbl', hc'⟩ := hesx.at_ prOk haq
            obtain ⟨e, he⟩ : ∃ e, e = acc[a] := ⟨_, rfl⟩
            rw [← he] at hc' hah
            obtain ⟨d0, d1⟩ := pr_at hc'
            have d2 := Later.cellAt d0
            have d3 := Later.cellAt d1
            have c2 := fun W => rahead_any e.i e.k p.i p.k W e.hi e.hk p.hi p.hk
            rw [Pr.ahead_eq, hah] at c2
            have y1 : (0 : Int) ≤ (a : Int) := by omega
            have y2 : (a : Int) < (q : Int) := by omega
            clear hah hpos he hc' d0 d1 g0 g1 f0 f1
            go_wp2_with fail
            refine wp_region_calm (by kernel_rfl) (by kernel_rfl) ?_
            have k1 := fun x : Later wr => calm_of (c2 x.w)
            clear c2
            repeat (go_big_quiet_step ((go_at_call 26; with_reducible exact k1 _)))
            refine wpQuiet_nil ?_
            rintro _ ⟨x9, rfl⟩
            have hb9 := x9.below
            generalize x9.w = w9 at hb9 ⊢
            go_wp2
            go_roundw
            case rel => exact ⟨a + 1, by omega, by go_num, hpos', hbx.trans (hb9.mono hsx)⟩
            case measure => simp [intOf]; omega
          · have hpf : posF p acc = a := by
              by_cases hla : a < acc.length
              · exact hpos.stop hla (by cases hh : acc[a].ahead p with | false => rfl | true => exact absurd ⟨hla, hh⟩ hgo)
              · exact hpos.end_ (by omega)
            rcases Nat.lt_or_ge a q with haq | haq
            · have hla : a < acc.length := by rw [hes1.len]; exact haq
              have hah : acc[a].ahead p = false := by cases hh : acc[a].ahead p with | false => rfl | true => exact absurd ⟨hla, hh⟩ hgo
              obtain ⟨ad', hl', rfl, hbl', hc'⟩ := hesx.at_ prOk haq
              obtain ⟨e, he⟩ : ∃ e, e = acc[a] := ⟨_, rfl⟩
              rw [← he] at hc' hah
              obtain ⟨d0, d1⟩ := pr_at hc'
              have d2 := Later.cellAt d0
              have d3 := Later.cellAt d1
              have c2 := fun W => rahead_any e.i e.k p.i p.k W e.hi e.hk p.hi p.hk
              rw [Pr.ahead_eq, hah] at c2
              have y1 : (0 : Int) ≤ (a : Int) := by omega
              have y2 : (a : Int) < (q : Int) := by omega
              have HP := hide hpf
              clear hah hpos he hc' d0 d1 g0 g1 hgo hpf
              go_wp2_with fail
              refine wp_region_calm (by kernel_rfl) (by kernel_rfl) ?_
              have k1 := fun x : Later wr => calm_of (c2 x.w)
              clear c2
              repeat (go_big_quiet_step ((go_at_call 26; with_reducible exact k1 _)))
              refine wpQuiet_nil ?_
              rintro _ ⟨x9, rfl⟩
              have hb9 := x9.below
              generalize x9.w = w9 at hb9 ⊢
              clear g2 g3
              have hs9 := hb9.size
              have hb19 := hbx.trans (hb9.mono hsx)
              have hes9 := (hes1.below (hb19.mono hs1)).more (B' := w9.heap.size) (by omega)
              have f9 := (hb19.cell (by rw [block_of_add]; have := hbw.size; omega)).trans f0
              have f10 := (hb19.cell (by show (ad.add (k * 2)).block < _; rw [block_of_add]; have := hbw.size; omega)).trans f1
              have l9 : (ad.add (k * 2)).block < w9.heap.size := by rw [block_of_add]; have := hbw.size; omega
              have hbw9 := hbw.trans (hb19.mono hbw.size)
              clear hb19 hb9 hesx hes1 f0 f1 hbx hbw hbw2 hsx hs1
              go_wp2_with (at_builtin; refine wp_append_e _ rfl (.tmp 36) (.tmp 39) 22 rfl 32 i0 _ 8 Try.underlying22 hi hz0 hz1 hz2 rfl prOk w9.heap.size 0 _ [] rfl (OwnE.nil_ _ _) w9.heap.size _ a c' (acc.take a) rfl (hes9.take prOk ha) (by unfold maxLen; omega) (by omega) w9.heap.size w9 (Below.refl _ _) (Nat.le_refl _) (Nat.le_refl _) ?_; intro A2 c2 w10 r1 r2 r3 r4; rw [Nat.zero_add, List.nil_append] at r1; rw [Nat.zero_add]; refine Hid.out ?_)
              refine Lib.hid ?_
              have own10 : OwnP w10 w9.heap.size (.slice A2 a c2) a (acc.take a) := r1
              have h0 := (r2.cell l9).trans f9
              have h1 := (r2.cell (show (⟨(ad.add (k * 2)).block, (ad.add (k * 2)).off + 1, none⟩ : Addr).block < _ from l9)).trans f10
              clear r1 r4 f9 f10
              have HR := hide r2
              clear r2
              go_wp2_with (at_builtin; refine wp_append_e _ rfl (.tmp 41) (.tmp 46) 22 rfl 32 i0 _ 8 Try.underlying22 hi hz0 hz1 hz2 rfl prOk w9.heap.size a _ (acc.take a) rfl (own10.alloc _) (w10.heap.size + 1) _ 1 1 [p] rfl (es_lit w10 p _) (by unfold maxLen; omega) (by omega) w9.heap.size w9 (HR.out.alloc r3 _) (Nat.le_refl _) (by simp; omega) ?_; intro A3 c3 w11 r4 r5 r6 r7; refine Hid.out ?_)
              refine Lib.hid ?_
              have own11 : OwnP w11 w9.heap.size (.slice A3 (a + 1) c3) (a + 1) (acc.take a ++ [p]) := r4
              have r8 : w9.heap.size ≤ w11.heap.size := by simp at r6; omega
              have hes11 := hes9.below r5
              clear r4 r6 r7 h0 h1 own10
              have HR2 := hide r5
              clear r5
              have es3 := hes11.cut' prOk ha
              have q3 : a + 1 + (q - a) = q + 1 := by omega
              have HQ3 := hide q3
              clear q3
              go_wp2_with (at_builtin; refine wp_append_e _ rfl (.tmp 48) (.tmp 51) 22 rfl 32 i0 _ 8 Try.underlying22 hi hz0 hz1 hz2 rfl prOk w9.heap.size (a + 1) _ (acc.take a ++ [p]) rfl own11 w9.heap.size _ (q - a) _ (acc.drop a) rfl es3 (by unfold maxLen; omega) (by omega) w9.heap.size w9 HR2.out (Nat.le_refl _) r8 ?_; intro A4 c4 w12 s1 s2 s3 s4; rw [HQ3.out] at s1; rw [HQ3.out]; refine Hid.out ?_)
              refine Lib.hid ?_
              have own12 : OwnP w12 w.heap.size (.slice A4 (q + 1) c4) (q + 1) (acc.take a ++ p :: acc.drop a) := by
                have h := OwnE.mono s1 (Nat.le_trans hbw9.size (Nat.le_refl _))
                rwa [List.append_assoc] at h
              have hb12 := hbw9.trans (s2.mono hbw9.size)
              rw [HP.out] at hst
              clear s1 s2 s4 es3
              go_wp2_with fail
              go_roundw
              case rel => exact ⟨k + 1, A4, q + 1, c4, _, by omega, by go_num, rfl, by omega, hst, own12, hb12⟩
              case measure => simp [intOf]; omega
            · obtain rfl : q = a := by omega
              have HP := hide hpf
              cases A' with
              | some ad' =>
                by_cases hcq : c' = q
                · obtain rfl : q = c' := by omega
                  clear g0 g1 hgo hpf
                  go_wp2_with fail
                  refine wp_region_calm (by kernel_rfl) (by kernel_rfl) ?_
                  repeat (go_big_quiet_step (fail))
                  refine wpQuiet_nil ?_
                  rintro _ ⟨x9, rfl⟩
                  have hb9 := x9.below
                  generalize x9.w = w9 at hb9 ⊢
                  clear g2 g3
                  have hs9 := hb9.size
                  have hb19 := hbx.trans (hb9.mono hsx)
                  have hes9 := (hes1.below (hb19.mono hs1)).more (B' := w9.heap.size) (by omega)
                  have f9 := (hb19.cell (by rw [block_of_add]; have := hbw.size; omega)).trans f0
                  have f10 := (hb19.cell (by show (ad.add (k * 2)).block < _; rw [block_of_add]; have := hbw.size; omega)).trans f1
                  have l9 : (ad.add (k * 2)).block < w9.heap.size := by rw [block_of_add]; have := hbw.size; omega
                  have hbw9 := hbw.trans (hb19.mono hbw.size)
                  clear hb19 hb9 hesx hes1 f0 f1 hbx hbw hbw2 hsx hs1
                  go_wp2_with (at_builtin; refine wp_append_e _ rfl (.tmp 36) (.tmp 39) 22 rfl 32 i0 _ 8 Try.underlying22 hi hz0 hz1 hz2 rfl prOk w9.heap.size 0 _ [] rfl (OwnE.nil_ _ _) w9.heap.size _ q q (acc.take q) rfl (hes9.take prOk ha) (by unfold maxLen; omega) (by omega) w9.heap.size w9 (Below.refl _ _) (Nat.le_refl _) (Nat.le_refl _) ?_; intro A2 c2 w10 r1 r2 r3 r4; rw [Nat.zero_add, List.nil_append] at r1; rw [Nat.zero_add]; refine Hid.out ?_)
                  refine Lib.hid ?_
                  have own10 : OwnP w10 w9.heap.size (.slice A2 q c2) q (acc.take q) := r1
                  have h0 := (r2.cell l9).trans f9
                  have h1 := (r2.cell (show (⟨(ad.add (k * 2)).block, (ad.add (k * 2)).off + 1, none⟩ : Addr).block < _ from l9)).trans f10
                  clear r1 r4 f9 f10
                  have HR := hide r2
                  clear r2
                  go_wp2_with (at_builtin; refine wp_append_e _ rfl (.tmp 41) (.tmp 46) 22 rfl 32 i0 _ 8 Try.underlying22 hi hz0 hz1 hz2 rfl prOk w9.heap.size q _ (acc.take q) rfl (own10.alloc _) (w10.heap.size + 1) _ 1 1 [p] rfl (es_lit w10 p _) (by unfold maxLen; omega) (by omega) w9.heap.size w9 (HR.out.alloc r3 _) (Nat.le_refl _) (by simp; omega) ?_; intro A3 c3 w11 r4 r5 r6 r7; refine Hid.out ?_)
                  refine Lib.hid ?_
                  have own11 : OwnP w11 w9.heap.size (.slice A3 (q + 1) c3) (q + 1) (acc.take q ++ [p]) := r4
                  have r8 : w9.heap.size ≤ w11.heap.size := by simp at r6; omega
                  have hes11 := hes9.below r5
                  clear r4 r6 r7 h0 h1 own10
                  have HR2 := hide r5
                  clear r5
                  have ed : acc.drop q = [] := List.drop_eq_nil_of_le (by rw [hes11.len]; exact Nat.le_refl _)
                  have HED := hide ed
                  clear ed
                  go_wp2_with (at_builtin; refine wp_append_e _ rfl (.tmp 48) (.tmp 51) 22 rfl 32 i0 _ 8 Try.underlying22 hi hz0 hz1 hz2 rfl prOk w9.heap.size (q + 1) _ (acc.take q ++ [p]) rfl own11 w9.heap.size _ 0 _ [] rfl Es.none_ (by unfold maxLen; omega) (by omega) w9.heap.size w9 HR2.out (Nat.le_refl _) r8 ?_; intro A4 c4 w12 s1 s2 s3 s4; rw [Nat.add_zero, List.append_nil] at s1; rw [Nat.add_zero]; refine Hid.out ?_)
                  refine Lib.hid ?_
                  have own12 : OwnP w12 w.heap.size (.slice A4 (q + 1) c4) (q + 1) (acc.take q ++ p :: acc.drop q) := by
                    have h := OwnE.mono s1 (Nat.le_trans hbw9.size (Nat.le_refl _))
                    rw [HED.out]; exact h
                  have hb12 := hbw9.trans (s2.mono hbw9.size)
                  rw [HP.out] at hst
                  clear s1 s2 s4
                  go_wp2_with fail
                  go_roundw
                  case rel => exact ⟨k + 1, A4, q + 1, c4, _, by omega, by go_num, rfl, by omega, hst, own12, hb12⟩
                  case measure => simp [intOf]; omega
                · clear g0 g1 hgo hpf
                  go_wp2_with fail
                  refine wp_region_calm (by kernel_rfl) (by kernel_rfl) ?_
                  repeat (go_big_quiet_step (fail))
                  refine wpQuiet_nil ?_
                  rintro _ ⟨x9, rfl⟩
                  have hb9 := x9.below
                  generalize x9.w = w9 at hb9 ⊢
                  clear g2 g3
                  have hs9 := hb9.size
                  have hb19 := hbx.trans (hb9.mono hsx)
                  have hes9 := (hes1.below (hb19.mono hs1)).more (B' := w9.heap.size) (by omega)
                  have f9 := (hb19.cell (by rw [block_of_add]; have := hbw.size; omega)).trans f0
                  have f10 := (hb19.cell (by show (ad.add (k * 2)).block < _; rw [block_of_add]; have := hbw.size; omega)).trans f1
                  have l9 : (ad.add (k * 2)).block < w9.heap.size := by rw [block_of_add]; have := hbw.size; omega
                  have hbw9 := hbw.trans (hb19.mono hbw.size)
                  clear hb19 hb9 hesx hes1 f0 f1 hbx hbw hbw2 hsx hs1
                  go_wp2_with (at_builtin; refine wp_append_e _ rfl (.tmp 36) (.tmp 39) 22 rfl 32 i0 _ 8 Try.underlying22 hi hz0 hz1 hz2 rfl prOk w9.heap.size 0 _ [] rfl (OwnE.nil_ _ _) w9.heap.size _ q c' (acc.take q) rfl (hes9.take prOk ha) (by unfold maxLen; omega) (by omega) w9.heap.size w9 (Below.refl _ _) (Nat.le_refl _) (Nat.le_refl _) ?_; intro A2 c2 w10 r1 r2 r3 r4; rw [Nat.zero_add, List.nil_append] at r1; rw [Nat.zero_add]; refine Hid.out ?_)
                  refine Lib.hid ?_
                  have own10 : OwnP w10 w9.heap.size (.slice A2 q c2) q (acc.take q) := r1
                  have h0 := (r2.cell l9).trans f9
                  have h1 := (r2.cell (show (⟨(ad.add (k * 2)).block, (ad.add (k * 2)).off + 1, none⟩ : Addr).block < _ from l9)).trans f10
                  clear r1 r4 f9 f10
                  have HR := hide r2
                  clear r2
                  go_wp2_with (at_builtin; refine wp_append_e _ rfl (.tmp 41) (.tmp 46) 22 rfl 32 i0 _ 8 Try.underlying22 hi hz0 hz1 hz2 rfl prOk w9.heap.size q _ (acc.take q) rfl (own10.alloc _) (w10.heap.size + 1) _ 1 1 [p] rfl (es_lit w10 p _) (by unfold maxLen; omega) (by omega) w9.heap.size w9 (HR.out.alloc r3 _) (Nat.le_refl _) (by simp; omega) ?_; intro A3 c3 w11 r4 r5 r6 r7; refine Hid.out ?_)
                  refine Lib.hid ?_
                  have own11 : OwnP w11 w9.heap.size (.slice A3 (q + 1) c3) (q + 1) (acc.take q ++ [p]) := r4
                  have r8 : w9.heap.size ≤ w11.heap.size := by simp at r6; omega
                  have hes11 := hes9.below r5
                  clear r4 r6 r7 h0 h1 own10
                  have HR2 := hide r5
                  clear r5
                  have ed : acc.drop q = [] := List.drop_eq_nil_of_le (by rw [hes11.len]; exact Nat.le_refl _)
                  have HED := hide ed
                  clear ed
                  go_wp2_with (at_builtin; refine wp_append_e _ rfl (.tmp 48) (.tmp 51) 22 rfl 32 i0 _ 8 Try.underlying22 hi hz0 hz1 hz2 rfl prOk w9.heap.size (q + 1) _ (acc.take q ++ [p]) rfl own11 w9.heap.size _ 0 _ [] rfl Es.none_ (by unfold maxLen; omega) (by omega) w9.heap.size w9 HR2.out (Nat.le_refl _) r8 ?_; intro A4 c4 w12 s1 s2 s3 s4; rw [Nat.add_zero, List.append_nil] at s1; rw [Nat.add_zero]; refine Hid.out ?_)
                  refine Lib.hid ?_
                  have own12 : OwnP w12 w.heap.size (.slice A4 (q + 1) c4) (q + 1) (acc.take q ++ p :: acc.drop q) := by
                    have h := OwnE.mono s1 (Nat.le_trans hbw9.size (Nat.le_refl _))
                    rw [HED.out]; exact h
                  have hb12 := hbw9.trans (s2.mono hbw9.size)
                  rw [HP.out] at hst
                  clear s1 s2 s4
                  go_wp2_with fail
                  go_roundw
                  case rel => exact ⟨k + 1, A4, q + 1, c4, _, by omega, by go_num, rfl, by omega, hst, own12, hb12⟩
                  case measure => simp [intOf]; omega
              | none =>
                obtain rfl : q = c' := (HN.out rfl).1.trans (HN.out rfl).2.symm
                clear g0 g1 hgo hpf
                go_wp2_with fail
                refine wp_region_calm (by kernel_rfl) (by kernel_rfl) ?_
                repeat (go_big_quiet_step (fail))
                refine wpQuiet_nil ?_
                rintro _ ⟨x9, rfl⟩
                have hb9 := x9.below
                generalize x9.w = w9 at hb9 ⊢
                clear g2 g3
                have hs9 := hb9.size
                have hb19 := hbx.trans (hb9.mono hsx)
                have hes9 := (hes1.below (hb19.mono hs1)).more (B' := w9.heap.size) (by omega)
                have f9 := (hb19.cell (by rw [block_of_add]; have := hbw.size; omega)).trans f0
                have f10 := (hb19.cell (by show (ad.add (k * 2)).block < _; rw [block_of_add]; have := hbw.size; omega)).trans f1
                have l9 : (ad.add (k * 2)).block < w9.heap.size := by rw [block_of_add]; have := hbw.size; omega
                have hbw9 := hbw.trans (hb19.mono hbw.size)
                clear hb19 hb9 hesx hes1 f0 f1 hbx hbw hbw2 hsx hs1
                go_wp2_with (at_builtin; refine wp_append_e _ rfl (.tmp 36) (.tmp 39) 22 rfl 32 i0 _ 8 Try.underlying22 hi hz0 hz1 hz2 rfl prOk w9.heap.size 0 _ [] rfl (OwnE.nil_ _ _) w9.heap.size _ q q (acc.take q) rfl (hes9.take prOk ha) (by unfold maxLen; omega) (by omega) w9.heap.size w9 (Below.refl _ _) (Nat.le_refl _) (Nat.le_refl _) ?_; intro A2 c2 w10 r1 r2 r3 r4; rw [Nat.zero_add, List.nil_append] at r1; rw [Nat.zero_add]; refine Hid.out ?_)
                refine Lib.hid ?_
                have own10 : OwnP w10 w9.heap.size (.slice A2 q c2) q (acc.take q) := r1
                have h0 := (r2.cell l9).trans f9
                have h1 := (r2.cell (show (⟨(ad.add (k * 2)).block, (ad.add (k * 2)).off + 1, none⟩ : Addr).block < _ from l9)).trans f10
                clear r1 r4 f9 f10
                have HR := hide r2
                clear r2
                go_wp2_with (at_builtin; refine wp_append_e _ rfl (.tmp 41) (.tmp 46) 22 rfl 32 i0 _ 8 Try.underlying22 hi hz0 hz1 hz2 rfl prOk w9.heap.size q _ (acc.take q) rfl (own10.alloc _) (w10.heap.size + 1) _ 1 1 [p] rfl (es_lit w10 p _) (by unfold maxLen; omega) (by omega) w9.heap.size w9 (HR.out.alloc r3 _) (Nat.le_refl _) (by simp; omega) ?_; intro A3 c3 w11 r4 r5 r6 r7; refine Hid.out ?_)
                refine Lib.hid ?_
                have own11 : OwnP w11 w9.heap.size (.slice A3 (q + 1) c3) (q + 1) (acc.take q ++ [p]) := r4
                have r8 : w9.heap.size ≤ w11.heap.size := by simp at r6; omega
                have hes11 := hes9.below r5
                clear r4 r6 r7 h0 h1 own10
                have HR2 := hide r5
                clear r5
                have ed : acc.drop q = [] := List.drop_eq_nil_of_le (by rw [hes11.len]; exact Nat.le_refl _)
                have HED := hide ed
                clear ed
                go_wp2_with (at_builtin; refine wp_append_e _ rfl (.tmp 48) (.tmp 51) 22 rfl 32 i0 _ 8 Try.underlying22 hi hz0 hz1 hz2 rfl prOk w9.heap.size (q + 1) _ (acc.take q ++ [p]) rfl own11 w9.heap.size _ 0 _ [] rfl Es.none_ (by unfold maxLen; omega) (by omega) w9.heap.size w9 HR2.out (Nat.le_refl _) r8 ?_; intro A4 c4 w12 s1 s2 s3 s4; rw [Nat.add_zero, List.append_nil] at s1; rw [Nat.add_zero]; refine Hid.out ?_)
                refine Lib.hid ?_
                have own12 : OwnP w12 w.heap.size (.slice A4 (q + 1) c4) (q + 1) (acc.take q ++ p :: acc.drop q) := by
                  have h := OwnE.mono s1 (Nat.le_trans hbw9.size (Nat.le_refl _))
                  rw [HED.out]; exact h
                have hb12 := hbw9.trans (s2.mono hbw9.size)
                rw [HP.out] at hst
                clear s1 s2 s4
                go_wp2_with fail
                go_roundw
                case rel => exact ⟨k + 1, A4, q + 1, c4, _, by omega, by go_num, rfl, by omega, hst, own12, hb12⟩
                case measure => simp [intOf]; omega
    · have hd := hto.done (by rw [HL.out]; omega)
      have hlen2 := OwnE.len prOk hown
      have HH := hide (And.intro hd (And.intro hown (And.intro hb hlen2)))
      clear hd hto hown hb hlen2
      go_wp2
      go_ret
      obtain ⟨hd, ho, hb2, hlen2⟩ := HH.out
      rw [← hd]
      subst hlen2
      exact ⟨A', c', rfl, ho, hb2⟩
end Go.Proofs.Ytfjefhmpfnnmeaa
