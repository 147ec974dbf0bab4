import Derived.Test.YtjmkecaljkcoiaaGreatDoorQViewD
namespace Go.Proofs.YtjmkecaljkcoiaaGreatDoor
open Go.RowKit Go.Maps
set_option linter.unusedVariables false
set_option linter.unusedSimpArgs false
theorem RiseTo.prev {mem l : List Pr} {k : Nat} (h : RiseTo mem l (k + 1)) (hk : k < l.length) : l[k] ∈ mem ∧ lastI mem (l.take (k + 1)) = (plc mem l[k] : Int) :=
  ⟨h.1 _ (List.mem_take_iff_getElem.2 ⟨k, by omega, rfl⟩), lastI_take hk⟩
set_option maxRecDepth 100000 in
theorem rrising_any (A : Option Addr) (n c : Nat) (mem : List Pr) (A' : Option Addr) (n' c' : Nat) (l : List Pr) (B B' : Nat) (w : World) (t : Bool) (hA : Es prC w B A n mem) (hB : B ≤ w.heap.size) (hA' : Es prC w B' A' n' l) (hB' : B' ≤ w.heap.size) (hn : n ≤ maxLen) (hn' : n' ≤ maxLen) (ht : t = true ↔ RiseP mem l) :
    Calls Tryz.prog 42 #[.slice A n c, .slice A' n' c'] w fun e w' => e = .returned (.bool t) ∧ Below w.heap.size w w' := by
  have hn2 := hn'
  unfold maxLen at hn2
  have hlen := hA'.len
  have HL := hide hlen
  have HT := hide ht
  clear hlen ht
  have h0 := RiseTo.start mem l
  go_enter Tryz.func42, Tryz.ntmps42
  go_wp2
  go_loopw [5] (fun i wr => ∃ j : Nat, j ≤ n' ∧ i = .int .i64 j ∧ RiseTo mem l j ∧ Below w.heap.size w wr) (fun i _ => n' - (intOf i).toNat)
  case atStart => exact ⟨0, Nat.zero_le _, rfl, h0, Below.refl _ _⟩
  case round =>
    obtain ⟨j, hj, rfl, hto, hbr⟩ := hrel
    clear h0
    by_cases hlt : j < n'
    · obtain ⟨ad, hl, rfl, hbl, hcc⟩ := (hA'.below (hbr.mono hB')).at_ prOk hlt
      have s1 := fun h1 h2 => hto.step hl h1 h2
      have s2 := fun h1 => RiseTo.gone (mem := mem) hl h1
      have s3 := fun h1 => RiseTo.low (mem := mem) hl h1
      obtain ⟨p, hp⟩ : ∃ p, p = l[j] := ⟨_, rfl⟩
      rw [← hp] at hcc s1 s2 s3
      obtain ⟨d0, d1⟩ := pr_at hcc
      have e0 := Later.cellAt d0
      have e1 := Later.cellAt d1
      have z1 : (0 : Int) ≤ (j : Int) := by omega
      have z2 : (j : Int) < (n' : Int) := by omega
      have ca := fun z : Later wr => calm_of (rat_any A n c mem B p z.w (hA.below ((hbr.trans (z.below.mono hbr.size)).mono hB)) (Nat.le_trans hB (Nat.le_trans hbr.size z.below.size)) hn)
      by_cases hin : p ∈ mem
      · rw [atI_in hin] at ca
        have hat0 : decide ((plc mem p : Int) < 0) = false := decide_eq_false (by omega)
        by_cases hj0 : j = 0
        · subst hj0
          have hst := s1 hin (by rw [List.take_zero, lastI_nil]; omega)
          have HS := hide hst
          clear hp hcc d0 d1 s1 s2 s3 hst hto
          generalize plc mem p = r at *
          rw [add_z] at e0 e1
          have y0 : (0 : Int) < (n' : Int) := by omega
          simp only [Int.natCast_zero] at *
          go_wp2_with fail
          refine wp_region_calm (by kernel_rfl) (by kernel_rfl) ?_
          repeat (go_big_quiet_step (first | (go_at_call 46; with_reducible exact ca _)))
          refine wpQuiet_nil ?_
          rintro _ ⟨x9, rfl⟩
          have hb9 := x9.below
          generalize x9.w = w9 at hb9 ⊢
          have hb10 := hbr.trans (hb9.mono hbr.size)
          clear ca e0 e1 hb9
          go_wp2
          go_roundw
          case rel => exact ⟨1, by omega, by go_num, HS.out, hb10⟩
          case measure => simp [intOf]; omega
        · obtain ⟨m, rfl⟩ : ∃ m, j = m + 1 := ⟨j - 1, by omega⟩
          have hm1 : m < l.length := by omega
          obtain ⟨hpm, hla⟩ := hto.prev hm1
          rw [hla] at s1 s3
          obtain ⟨ad', hl', had', _, hcc'⟩ := (hA'.below (hbr.mono hB')).at_ prOk (show m < n' by omega)
          obtain rfl : ad = ad' := by injection had'
          obtain ⟨p0, hp0⟩ : ∃ p, p = l[m] := ⟨_, rfl⟩
          rw [← hp0] at hcc' hpm s1 s3
          obtain ⟨d2, d3⟩ := pr_at hcc'
          have e2 := Later.cellAt d2
          have e3 := Later.cellAt d3
          have cb := fun z : Later wr => calm_of (rat_any A n c mem B p0 z.w (hA.below ((hbr.trans (z.below.mono hbr.size)).mono hB)) (Nat.le_trans hB (Nat.le_trans hbr.size z.below.size)) hn)
          rw [atI_in hpm] at cb
          have y0 : decide ((0 : Int) < ((m + 1 : Nat) : Int)) = true := decide_eq_true (by omega)
          have y1 : ((m + 1 : Nat) : Int) - 1 = (m : Int) := by omega
          have y2 : (m : Int) < (n' : Int) := by omega
          have y3 : (0 : Int) ≤ (m : Int) := by omega
          clear hp hp0 hcc hcc' d0 d1 d2 d3 s2 hto had' hla
          have s1 := s1 hin
          by_cases hle : (plc mem p : Int) ≤ (plc mem p0 : Int)
          · have hf := not_of_iff HT.out (s3 hle)
            have HF := hide hf
            have y4 : decide ((plc mem p : Int) ≤ (plc mem p0 : Int)) = true := decide_eq_true hle
            clear s1 s3 hf
            generalize plc mem p = r at *
            generalize plc mem p0 = r0 at *
            go_wp2_with fail
            refine wp_region_calm (by kernel_rfl) (by kernel_rfl) ?_
            repeat (go_big_quiet_step (first | (go_at_call 46; with_reducible exact ca _) | (go_at_call 46; with_reducible exact cb _)))
            refine wpQuiet_nil ?_
            rintro _ ⟨x9, rfl⟩
            have hb9 := x9.below
            generalize x9.w = w9 at hb9 ⊢
            have hb10 := hbr.trans (hb9.mono hbr.size)
            clear ca cb e0 e1 e2 e3 hb9
            go_wp2
            go_ret
            exact ⟨ret_bool HF.out.symm, hb10⟩
          · have hst := s1 (by omega)
            have HS := hide hst
            have y4 : decide ((plc mem p : Int) ≤ (plc mem p0 : Int)) = false := decide_eq_false hle
            clear s1 s3 hst
            generalize plc mem p = r at *
            generalize plc mem p0 = r0 at *
            go_wp2_with fail
            refine wp_region_calm (by kernel_rfl) (by kernel_rfl) ?_
            repeat (go_big_quiet_step (first | (go_at_call 46; with_reducible exact ca _) | (go_at_call 46; with_reducible exact cb _)))
            refine wpQuiet_nil ?_
            rintro _ ⟨x9, rfl⟩
            have hb9 := x9.below
            generalize x9.w = w9 at hb9 ⊢
            have hb10 := hbr.trans (hb9.mono hbr.size)
            clear ca cb e0 e1 e2 e3 hb9
            go_wp2
            go_roundw
            case rel => exact ⟨m + 1 + 1, by omega, by go_num, HS.out, hb10⟩
            case measure => simp [intOf]; omega
      · have hf := not_of_iff HT.out (s2 hin)
        have HF := hide hf
        rw [atI_no hin] at ca
        clear hp hcc d0 d1 s1 s2 s3 hf hto
        go_wp2_with fail
        refine wp_region_calm (by kernel_rfl) (by kernel_rfl) ?_
        repeat (go_big_quiet_step (first | (go_at_call 46; with_reducible exact ca _)))
        refine wpQuiet_nil ?_
        rintro _ ⟨x9, rfl⟩
        have hb9 := x9.below
        generalize x9.w = w9 at hb9 ⊢
        have hb10 := hbr.trans (hb9.mono hbr.size)
        clear ca e0 e1 hb9
        go_wp2
        go_ret
        exact ⟨ret_bool HF.out.symm, hb10⟩
    · have hd := HT.out.2 (hto.done (by rw [HL.out]; omega))
      have HD := hide hd
      clear hd hto
      go_wp2
      go_ret
      exact ⟨ret_bool HD.out.symm, hbr⟩
end Go.Proofs.YtjmkecaljkcoiaaGreatDoor
