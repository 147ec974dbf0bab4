import Derived.Test.YtjmkecaljkcoiaaDoorQView3
namespace Go.Proofs.YtjmkecaljkcoiaaDoor
open Go.RowKit Go.Maps
set_option linter.unusedVariables false
set_option linter.unusedSimpArgs false
theorem cellL {w w' : World} {a : Addr} {v : Value} (h : w.cell? a = some v) (hb : Below w.heap.size w w') : w'.cell? a = some v := (hb.cell (World.block_lt_of_cell? w a h)).trans h
structure IdTo (l : List Pr) (k a b : Nat) : Prop where
  lo : a = loM (idsB (l.take k))
  hi : b = hiM (idsB (l.take k))
  each : ∀ p ∈ l.take k, p.i < 16 ∧ 0 < p.k
theorem IdTo.start (l : List Pr) : IdTo l 0 0 0 := by
  have h := mask_of (a := 0) (b := 0) (p := idsB []) (by decide) (by decide) (fun i _ => by rw [zero_bit]; simp [idsB])
  exact ⟨by rw [List.take_zero, h.1], by rw [List.take_zero, h.2], fun p hp => by simp at hp⟩
theorem IdTo.la {l : List Pr} {k a b : Nat} (h : IdTo l k a b) : a < 18446744073709551616 := by rw [h.lo]; exact loM_lt _
theorem IdTo.lb {l : List Pr} {k a b : Nat} (h : IdTo l k a b) : b < 18446744073709551616 := by rw [h.hi]; exact hiM_lt _
theorem mayP_iff (p : Pr) : mayP p = true ↔ p.i < 16 ∧ 0 < p.k := by unfold mayP; rw [Bool.and_eq_true, decide_eq_true_eq, decide_eq_true_eq]
theorem IdTo.step {l : List Pr} {k a b : Nat} (h : IdTo l k a b) (hk : k < l.length) (hm : mayP l[k] = true) : IdTo l (k + 1) (putA a l[k].i) (putB b l[k].i) := by
  have hm' := (mayP_iff _).1 hm
  have h1 := put_of (idsB (l.take k)) l[k].i (by omega)
  have h2 := of_congr (p := idsB (l.take (k + 1))) (q := fun i => idsB (l.take k) i || decide (i = l[k].i)) fun i _ => by rw [List.take_succ_eq_append_getElem hk, idsB_snoc]
  refine ⟨by rw [h2.1, h1.1, h.lo], by rw [h2.2, h1.2, h.hi], fun p hp => ?_⟩
  rw [List.take_succ_eq_append_getElem hk, List.mem_append, List.mem_singleton] at hp
  exact hp.elim (h.each p) (fun e => e ▸ hm')
theorem IdTo.stop {l : List Pr} {k : Nat} (hk : k < l.length) (hm : mayP l[k] = false) : ¬ MayMem l := fun h => by
  rw [(mayP_iff _).2 (h.each _ (List.getElem_mem hk))] at hm
  cases hm
theorem IdTo.done {l : List Pr} {k a b : Nat} (h : IdTo l k a b) (hk : l.length ≤ k) (h1 : 1 ≤ l.length) (h2 : l.length ≤ 24) : popM a b = l.length ↔ MayMem l := by
  obtain ⟨e1, e2, e3⟩ := h
  rw [List.take_of_length_le hk] at e1 e2 e3
  subst e1; subst e2
  rw [ids_count l (fun p hp => (e3 p hp).1)]
  exact ⟨fun h => ⟨h1, h2, e3, h⟩, fun h => h.ids⟩
theorem not_of_iff {t : Bool} {P : Prop} (h : t = true ↔ P) (hn : ¬ P) : t = false := by
  cases t
  · rfl
  · exact absurd (h.1 rfl) hn
set_option maxRecDepth 100000 in
theorem mbm_any (A : Option Addr) (n c : Nat) (l : List Pr) (B : Nat) (w : World) (t : Bool) (hA : Es prC w B A n l) (hB : B ≤ w.heap.size) (hn : n ≤ maxLen) (ht : t = true ↔ MayMem l) :
    Calls Tryd.prog 110 #[.slice A n c] w fun e w' => e = .returned (.bool t) ∧ Below w.heap.size w w' := by
  unfold maxLen at hn
  have hlen := hA.len
  by_cases h1 : n < 1
  · have hf := not_of_iff ht (fun h => by have := h.one; omega)
    subst hf
    have z1 : decide ((n : Int) < 1) = true := decide_eq_true (by omega)
    clear ht hlen
    go_enter Tryd.func110, Tryd.ntmps110
    go_wp2
    go_ret
    exact ⟨rfl, Below.refl _ _⟩
  · by_cases h2 : 24 < n
    · have hf := not_of_iff ht (fun h => by have := h.most; omega)
      subst hf
      have z1 : decide ((n : Int) < 1) = false := decide_eq_false (by omega)
      have z2 : decide (24 < (n : Int)) = true := decide_eq_true (by omega)
      clear ht hlen
      go_enter Tryd.func110, Tryd.ntmps110
      go_wp2
      go_ret
      exact ⟨rfl, Below.refl _ _⟩
    · have z1 : decide ((n : Int) < 1) = false := decide_eq_false (by omega)
      have z2 : decide (24 < (n : Int)) = false := decide_eq_false (by omega)
      have hlo : 1 ≤ n := by omega
      have hhi : n ≤ 24 := by omega
      have h0 := IdTo.start l
      have m0 := MAt.mk_ w 0 0
      have hbw : Below w.heap.size w (w.alloc (.cells #[.int .u64 0, .int .u64 0] 162)) := (Below.refl _ _).alloc (Nat.le_refl _) _
      have HL := hide hlen
      have HT := hide ht
      clear hlen ht hn h1 h2
      go_enter Tryd.func110, Tryd.ntmps110
      go_wp2
      clear z1 z2
      go_loopw [16] (fun i wr => ∃ k x y : Nat, k ≤ n ∧ i = .int .i64 k ∧ IdTo l k x y ∧ MAt wr w.heap.size x y ∧ Below w.heap.size w wr) (fun i _ => n - (intOf i).toNat)
      case atStart => exact ⟨0, 0, 0, Nat.zero_le _, rfl, h0, m0, hbw⟩
      case round =>
        obtain ⟨k, x, y, hk, rfl, hinv, q0, hb⟩ := hrel
        clear m0 hbw h0
        have la := hinv.la
        have lb := hinv.lb
        by_cases hlt : k < n
        · have hAr := hA.below (hb.mono hB)
          obtain ⟨ad, hl, rfl, hbl, hc⟩ := hAr.at_ prOk hlt
          have hyes := fun hm => hinv.step hl hm
          have hno := fun hm => IdTo.stop hl hm
          obtain ⟨p, hpp⟩ : ∃ p, p = l[k] := ⟨_, rfl⟩
          rw [← hpp] at hc hyes hno
          obtain ⟨c0, c1⟩ := pr_at hc
          have hb1 : Below w.heap.size w (wr.alloc (.cells #[.int .u16 (p.i : Int), .int .u32 (p.k : Int)] 25)) := hb.alloc hb.size _
          have p0 := q0.alloc (.cells #[.int .u16 (p.i : Int), .int .u32 (p.k : Int)] 25)
          have cm := fun W => may_any p W
          have hpi : mayP p = true → p.i < 128 := fun h => by have := ((mayP_iff p).1 h).1; omega
          have HP := hide hpi
          clear hpp hc hAr hinv hpi q0
          generalize mayP p = v at *
          have u0 : (wr.alloc (.cells #[.int .u16 (p.i : Int), .int .u32 (p.k : Int)] 25)).cell? ⟨wr.heap.size, 0, none⟩ = some (.int .u16 (p.i : Int)) := by go_simp
          cases v
          · have hf := not_of_iff HT.out (hno rfl)
            have HF := hide hf
            clear hyes hno hf
            go_wp2_with fail
            refine (cm _).mono ?_
            rintro e w1 ⟨rfl, hb2⟩
            have hb3 := hb1.trans (hb2.mono hb1.size)
            go_wp2
            go_ret
            exact ⟨ret_bool HF.out.symm, hb3⟩
          · have hr := HP.out rfl
            have hst := hyes rfl
            have cw := fun W => with_any x y p.i W la lb hr
            generalize putA x p.i = x' at *
            generalize putB y p.i = y' at *
            clear hyes hno
            go_wp2_with fail
            refine (cm _).mono ?_
            rintro e w1 ⟨rfl, hb2⟩
            have p1 := p0.later hb2
            have hb3 := hb1.trans (hb2.mono hb1.size)
            have g0 := p1.c0
            have g1 := p1.c1
            have u1 := cellL u0 hb2
            clear hb1 hb2 p0 u0 c0 c1
            go_wp2_with fail
            refine (cw _).mono ?_
            rintro e w2 ⟨rfl, hb4⟩
            have r1 := p1.later hb4
            have hb5 := hb3.trans (hb4.mono hb3.size)
            have d4 := r1.fz 0
            have d5 := r1.fz 1
            have d6 := r1.c0
            have d7 := r1.c1
            have s1 := r1.set_ x' y'
            have s2 : Below w.heap.size w ((w2.setCell ⟨w.heap.size, 0, none⟩ (.int .u64 (x' : Int))).setCell ⟨w.heap.size, 1, none⟩ (.int .u64 (y' : Int))) := (hb5.setCell (by simp) _).setCell (by simp) _
            clear hb3 hb4 hb5 p1 r1 cw cm g0 g1 u1
            go_wp2_with fail
            go_roundw
            case rel => exact ⟨k + 1, x', y', by omega, by go_num, hst, s1, s2⟩
            case measure => simp [intOf]; omega
        · have hd := hinv.done (by rw [HL.out]; omega) (by rw [HL.out]; exact hlo) (by rw [HL.out]; exact hhi)
          rw [HL.out] at hd
          have cc := fun W => count_any x y W la lb
          have hpm := popM_le x y
          generalize popM x y = s at *
          have e0 := q0.c0
          have e1 := q0.c1
          have ht2 : decide ((s : Int) = (n : Int)) = t := by
            have h3 := HT.out
            cases t
            · exact decide_eq_false (fun h => by have := h3.2 (hd.1 (by omega)); cases this)
            · exact decide_eq_true (by have := hd.2 (h3.1 rfl); omega)
          have HX := hide ht2
          clear hd hinv ht2
          go_wp2_with fail
          refine (cc _).mono ?_
          rintro e w1 ⟨rfl, hb2⟩
          have hb3 := hb.trans (hb2.mono hb.size)
          clear hb hb2 e0 e1 q0 cc
          go_wp2
          go_ret
          exact ⟨ret_bool (by
            rw [← HX.out]
            first | rfl | (rw [Bool.eq_iff_iff]; simp; done) | (rw [Bool.eq_iff_iff]; simp; omega)), hb3⟩
end Go.Proofs.YtjmkecaljkcoiaaDoor
