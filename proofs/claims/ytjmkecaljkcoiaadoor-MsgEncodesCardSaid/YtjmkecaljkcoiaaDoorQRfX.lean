import Derived.Test.YtjmkecaljkcoiaaDoorQMsg8M
import Derived.Test.YtjmkecaljkcoiaaDoorQViewC
import Derived.Test.YtjmkecaljkcoiaaDoorQViewP
import Derived.Test.YtjmkecaljkcoiaaDoorQKey3
namespace Go.Proofs.YtjmkecaljkcoiaaDoor
open Go.RowKit Go.Maps
set_option linter.unusedVariables false
set_option linter.unusedSimpArgs false
def letL (m : Ms) (c : UInt8) : List UInt8 :=
  if c = 119 then pidL m.who.i m.who.k else if c = 118 then shortL m.view else if c = 115 then shortL m.slot else if c = 98 then shortL m.b.r ++ pidL m.b.p.i m.b.p.k else if c = 110 then shortL m.num else if c = 104 then shortL m.hops.toNat else
  if c = 112 then (if m.has then boolL m.has ++ (shortL m.a.r ++ pidL m.a.p.i m.a.p.k) ++ formC m.c else boolL m.has) else if c = 99 then formC m.c else if c = 86 then viewL m.v else shortL m.d.length ++ m.d
theorem ten_of {k : Int} {c : UInt8} (h : c ∈ fldI k) : c = 119 ∨ c = 118 ∨ c = 115 ∨ c = 98 ∨ c = 110 ∨ c = 104 ∨ c = 112 ∨ c = 99 ∨ c = 86 ∨ c = 121 := by
  have hs : fldI k ≠ [] := fun e => by rw [e] at h; simp at h
  rcases fourteen (fldI_some.1 hs) with rfl | rfl | rfl | rfl | rfl | rfl | rfl | rfl | rfl | rfl | rfl | rfl | rfl | rfl
  all_goals
    clear hs
    revert c
    decide
theorem letL_119 (m : Ms) : letL m 119 = pidL m.who.i m.who.k := rfl
theorem letL_118 (m : Ms) : letL m 118 = shortL m.view := rfl
theorem letL_115 (m : Ms) : letL m 115 = shortL m.slot := rfl
theorem letL_98 (m : Ms) : letL m 98 = shortL m.b.r ++ pidL m.b.p.i m.b.p.k := rfl
theorem letL_110 (m : Ms) : letL m 110 = shortL m.num := rfl
theorem letL_104 (m : Ms) : letL m 104 = shortL m.hops.toNat := rfl
theorem letL_112 (m : Ms) : letL m 112 = (if m.has then boolL m.has ++ (shortL m.a.r ++ pidL m.a.p.i m.a.p.k) ++ formC m.c else boolL m.has) := rfl
theorem letL_99 (m : Ms) : letL m 99 = formC m.c := rfl
theorem letL_86 (m : Ms) : letL m 86 = viewL m.v := rfl
theorem letL_121 (m : Ms) : letL m 121 = shortL m.d.length ++ m.d := rfl
theorem boolL_len (t : Bool) : (boolL t).length ≤ 10 := by cases t <;> decide
theorem letL_len {m : Ms} (h : MayM m) {c : UInt8} (hc : c ∈ fldI m.kind) : (letL m c).length ≤ 400000 := by
  have L := lets m.kind m.has
  have hb : letB m.kind c = true := decide_eq_true hc
  have e8 := (h.each 8 (by decide)).1
  have e9 := (h.each 9 (by decide)).1
  have e10 := (h.each 10 (by decide)).1
  rw [L.h8] at e8
  rw [L.h9] at e9
  rw [L.h10] at e10
  rcases ten_of hc with rfl | rfl | rfl | rfl | rfl | rfl | rfl | rfl | rfl | rfl
  · rw [letL_119]; have := pidL_len m.who.i m.who.k; omega
  · rw [letL_118]; have := (shortL_len m.view).2; omega
  · rw [letL_115]; have := (shortL_len m.slot).2; omega
  · rw [letL_98, List.length_append]; have := (shortL_len m.b.r).2; have := pidL_len m.b.p.i m.b.p.k; omega
  · rw [letL_110]; have := (shortL_len m.num).2; omega
  · rw [letL_104]; have := (shortL_len m.hops.toNat).2; omega
  · rw [letL_112]
    have hb1 := boolL_len m.has
    cases hh : m.has
    · simp only [Bool.false_eq_true, if_false]; have := boolL_len false; omega
    · have := formC_len (e8 (by rw [hb, hh]; simp))
      simp only [if_true, List.length_append]
      have := boolL_len true
      have := (shortL_len m.a.r).2; have := pidL_len m.a.p.i m.a.p.k; omega
  · rw [letL_99]; have := formC_len (e8 (by rw [hb]; rfl)); omega
  · rw [letL_86]; have := viewL_len9 (e9 hb); omega
  · rw [letL_121, List.length_append]; have := (shortL_len m.d.length).2; have h2 := e10 hb; simp only [rightF] at h2; omega
theorem form_letters {m : Ms} (h : 1 ≤ m.kind ∧ m.kind ≤ 14) : formM m = shortL m.kind.toNat ++ (fldI m.kind).flatMap (letL m) := by
  obtain ⟨k, who, view, slot, num, hops, b, a, has, c, v, d⟩ := m
  simp only at h
  unfold formM optF
  rcases fourteen h with rfl | rfl | rfl | rfl | rfl | rfl | rfl | rfl | rfl | rfl | rfl | rfl | rfl | rfl
  all_goals
    cases has
    all_goals
      simp only [show ∀ (k : Int) t i, hasF k t i = (bitsM k t).testBit i from fun _ _ _ => rfl, bitsM, tabM, fldI, fldT]
      simp [Nat.testBit, letL_119, letL_118, letL_115, letL_98, letL_110, letL_104, letL_112, letL_99, letL_86, letL_121, fldF, balL, boolL]
end Go.Proofs.YtjmkecaljkcoiaaDoor
namespace Go.Proofs.YtjmkecaljkcoiaaDoor
open Go.RowKit Go.Maps
set_option linter.unusedVariables false
set_option linter.unusedSimpArgs false
set_option maxRecDepth 100000 in
theorem rranks_any (M A : Option Addr) (mn mc n c : Nat) (mem l : List Pr) (B B' : Nat) (w : World) (hM : Es prC w B M mn mem) (hA : Es prC w B' A n l) (hB : B ≤ w.heap.size) (hB' : B' ≤ w.heap.size) (hmn : mn ≤ 1000) (hm : n ≤ 1000) (hin : ∀ p ∈ l, p ∈ mem) :
    Calls Tryd.prog 80 #[.slice M mn mc, .slice A n c] w (MakesB w (someL mem l)) := by
  have r1 := fun W => rnum7_any n W (by omega)
  have wr : IntKind.u64.wrap (n : Int) = (n : Int) := by rw [IntKind.wrap_u64]; omega
  have hlen := hA.len
  have hml := hM.len
  unfold someL
  rw [hlen]
  have hi10 := (shortL_len n).2
  have hpl := fun j => rkL_len mem (l.take j)
  generalize shortL n = l1 at *
  have HL := hide hlen
  have HML := hide hml
  have HP := hide hpl
  have HI := hide hin
  clear hlen hpl hin hml
  go_enter Tryd.func80, Tryd.ntmps80
  go_wp2_with fail
  refine (r1 w).mono ?_
  rintro e w1 ⟨A1, c1, rfl, hO1, hb1⟩
  have H0 : OwnB w1 w.heap.size (.slice A1 l1.length c1) l1.length (l1 ++ rkL mem (l.take 0)) := by simpa [rkL] using hO1
  clear r1
  go_wp2
  go_loopw [5, 6] (fun v i wr => ∃ j : Nat, j ≤ n ∧ i = .int .i64 j ∧ ∃ A' m' c', v = .slice A' m' c' ∧ OwnB wr w.heap.size (.slice A' m' c') m' (l1 ++ rkL mem (l.take j)) ∧ Below w.heap.size w wr) (fun _ i _ => n - (intOf i).toNat)
  case atStart => exact ⟨0, Nat.zero_le _, rfl, A1, _, c1, rfl, H0, hb1⟩
  case round =>
    obtain ⟨j, hj, rfl, A', m', c', rfl, hO, hb⟩ := hrel
    clear H0 hO1 hb1
    have hs := hb.size
    by_cases hlt : j < n
    · obtain ⟨ad, hl, rfl, hbl, hc⟩ := (hA.below (hb.mono hB')).at_ prOk hlt
      have hqm := HI.out _ (List.getElem_mem hl)
      have hstep := rkL_take mem hl
      obtain ⟨q, hq⟩ : ∃ q, q = l[j] := ⟨_, rfl⟩
      rw [← hq] at hc hqm hstep
      obtain ⟨c0, c1⟩ := pr_at hc
      have ca := rat_any M mn mc mem B q wr (hM.below (hb.mono hB)) (Nat.le_trans hB hs) (by unfold maxLen; omega)
      rw [atI_in hqm] at ca
      have hz := plc_lt hqm
      rw [HML.out] at hz
      obtain ⟨z, hze⟩ : ∃ z, z = plc mem q := ⟨_, rfl⟩
      rw [← hze] at ca hz hstep
      have wz : IntKind.u64.wrap (z : Int) = (z : Int) := by rw [IntKind.wrap_u64]; omega
      have HS := hide hstep
      clear hc hq hstep hqm hze
      have hm' : m' ≤ 30000 := by
        have h1 := HP.out j
        have h2 : (l.take j).length ≤ j := List.length_take_le _ _
        rw [← hO.len, List.length_append]
        omega
      have hp20 := (shortL_len z).2
      go_wp2_with fail
      refine ca.mono ?_
      rintro e w2 ⟨rfl, hb2⟩
      go_wp2_with fail
      refine (rnum7_any z w2 (by omega)).mono ?_
      rintro e w3 ⟨A3, c3, rfl, hO3, hb3'⟩
      have hb3 := hb2.trans (hb3'.mono hb2.size)
      have hO' := hO.later hb3
      have hb' := hb.trans (hb3.mono hs)
      have hbs := hO3.bs
      have hs3 := hb'.size
      clear hO hb hb3 hO3 hb2 hb3' ca
      generalize shortL z = l3 at *
      go_wp2_with (at_builtin; refine wp_bytes_own _ rfl (.tmp 17) (.tmp 25) rfl w.heap.size m' _ _ rfl hO' _ A3 l3.length c3 l3 rfl hbs (by omega) w.heap.size w hb' (Nat.le_refl _) hs3 ?_)
      intro A4 c4 w4 hO4 hb4 hs4
      try rw [List.append_assoc] at hO4
      rw [← HS.out] at hO4
      clear hO' hb' hbs hs3 HS
      go_wp2
      go_roundw
      case rel => exact ⟨j + 1, by omega, by go_num, _, _, _, rfl, hO4, hb4⟩
      case measure => simp [intOf]; omega
    · have e : l.take j = l := List.take_of_length_le (by rw [HL.out]; omega)
      rw [e] at hO
      have hml := hO.len
      have HM := Lib.hid (⟨A', c', by rw [hml], hml ▸ hO, hb⟩ : MakesB w (l1 ++ rkL mem l) (.returned (.slice A' m' c')) wr)
      clear e hO hml
      go_wp2
      go_ret
      exact HM.out
end Go.Proofs.YtjmkecaljkcoiaaDoor
