import Derived.Maps.Own
import Derived.Maps.OwnSet
import Derived.Maps.OwnOps
import Derived.DeepKeys4
import Derived.Maps.Keyed
import Derived.Test.YtjmkecaljkcoiaaGreatDoorQMask4
import Derived.Test.YtjmkecaljkcoiaaGreatDoorQView2
import Derived.Test.YtjmkecaljkcoiaaGreatDoorQSortM
namespace Go.Proofs.YtjmkecaljkcoiaaGreatDoor
open Go.RowKit Go.Maps
set_option linter.unusedVariables false
set_option linter.unusedSimpArgs false
theorem cellsMask : Tryz.prog.cellsOf 164 = 2 := by kernel_rfl
theorem cellsU64M : Tryz.prog.cellsOf 22 = 1 := by kernel_rfl
theorem wf_mask {a : Nat} (h : a < 18446744073709551616) : (Lit.int .u64 a).wf = true := by
  simp [Lit.wf, IntKind.min, IntKind.max, IntKind.bits, IntKind.signed]; omega
set_option maxRecDepth 100000 in
theorem lits_mask (m a b : Nat) (ha : a < 18446744073709551616) (hb : b < 18446744073709551616) : Tryz.prog.keyLits (m + 2) 164 [.int .u64 a, .int .u64 b] = some [.int .u64 a, .int .u64 b] := by
  have h1 := wf_mask ha
  have h2 := wf_mask hb
  unfold Program.keyLits
  simp [Tryz.underlying164, cellsMask, cellsU64M, List.range, List.range.loop, Program.keyLits, Tryz.underlying22, h1, h2]
theorem formed_mask (a b : Nat) : (.agg #[.int .u64 a, .int .u64 b] : Value).formed Tryz.prog 164 = true := by
  simp [Value.formed, Tryz.underlying164, cellsMask]
set_option maxRecDepth 100000 in
theorem mask_eql (a b c d : Nat) (ha : a < 18446744073709551616) (hb : b < 18446744073709551616) (hc : c < 18446744073709551616) (hd : d < 18446744073709551616) (w : World) :
    (Op.equalIn 10000 164 (.agg #[.int .u64 a, .int .u64 b]) (.agg #[.int .u64 c, .int .u64 d])).run Tryz.prog w = .ok (decide (a = c ∧ b = d)) w := by
  obtain ⟨r, hr, hi⟩ := run_equalIn_deep 9998 2 164 (by kernel_rfl) w 2 2 (.agg #[.int .u64 a, .int .u64 b]) (.agg #[.int .u64 c, .int .u64 d]) _ _ (formed_mask a b) (formed_mask c d) (lits_mask 0 a b ha hb) (lits_mask 0 c d hc hd)
  rw [hr]
  congr 1
  rw [Bool.eq_iff_iff, hi]
  simp
  omega
end Go.Proofs.YtjmkecaljkcoiaaGreatDoor
namespace Go.Proofs.YtjmkecaljkcoiaaGreatDoor
open Go.RowKit Go.Maps
set_option linter.unusedVariables false
set_option linter.unusedSimpArgs false
structure RkTo (mem l : List Pr) (k a b : Nat) : Prop where
  lo : a = rkA mem (l.take k)
  hi : b = rkB mem (l.take k)
theorem RkTo.start (mem l : List Pr) : RkTo mem l 0 0 0 := ⟨by rw [List.take_zero, (rk_nil mem).1], by rw [List.take_zero, (rk_nil mem).2]⟩
theorem RkTo.la {mem l : List Pr} {k a b : Nat} (h : RkTo mem l k a b) : a < 18446744073709551616 := by rw [h.lo]; exact rkA_lt _ _
theorem RkTo.lb {mem l : List Pr} {k a b : Nat} (h : RkTo mem l k a b) : b < 18446744073709551616 := by rw [h.hi]; exact rkB_lt _ _
theorem RkTo.yes {mem l : List Pr} {k a b : Nat} (h : RkTo mem l k a b) (hk : k < l.length) (hs : mem.length ≤ 128) (hm : l[k] ∈ mem) : RkTo mem l (k + 1) (putA a (plc mem l[k])) (putB b (plc mem l[k])) := by
  have := rk_in mem (l.take k) l[k] hm hs
  rw [← List.take_succ_eq_append_getElem hk] at this
  exact ⟨by rw [this.1, h.lo], by rw [this.2, h.hi]⟩
theorem RkTo.no {mem l : List Pr} {k a b : Nat} (h : RkTo mem l k a b) (hk : k < l.length) (hm : l[k] ∉ mem) : RkTo mem l (k + 1) a b := by
  have := rk_no mem (l.take k) l[k] hm
  rw [← List.take_succ_eq_append_getElem hk] at this
  exact ⟨by rw [this.1, h.lo], by rw [this.2, h.hi]⟩
theorem RkTo.done {mem l : List Pr} {k a b : Nat} (h : RkTo mem l k a b) (hk : l.length ≤ k) : a = rkA mem l ∧ b = rkB mem l := by
  obtain ⟨h1, h2⟩ := h
  rw [List.take_of_length_le hk] at h1 h2
  exact ⟨h1, h2⟩
set_option maxRecDepth 100000 in
theorem maskOf_any (b N : Nat) (mem : List Pr) (A : Option Addr) (n c : Nat) (l : List Pr) (B : Nat) (w : World) (hp : PlaceP w b N mem) (hA : Es prC w B A n l) (hB : B ≤ w.heap.size) (hn : n ≤ 1000000) (hs : mem.length ≤ 128) :
    Calls Tryz.prog 128 #[.map (some b), .slice A n c] w fun e w' => e = .returned (.agg #[.int .u64 ((rkA mem l : Nat) : Int), .int .u64 ((rkB mem l : Nat) : Int)]) ∧ Below w.heap.size w w' := by
  have hlen := hA.len
  have HL := hide hlen
  clear hlen
  have h0 := RkTo.start mem l
  have m0 := (MAt.mk_ w 0 0).alloc (.cells #[.int .u64 0, .int .u64 0] 164)
  have m1 := MAt.mk_ (w.alloc (.cells #[.int .u64 0, .int .u64 0] 164)) 0 0
  have hbw : Below w.heap.size w ((w.alloc (.cells #[.int .u64 0, .int .u64 0] 164)).alloc (.cells #[.int .u64 0, .int .u64 0] 164)) := ((Below.refl _ _).alloc (Nat.le_refl _) _).alloc (by simp) _
  have hz : w.heap.size + 1 + 1 ≤ ((w.alloc (.cells #[.int .u64 0, .int .u64 0] 164)).alloc (.cells #[.int .u64 0, .int .u64 0] 164)).heap.size := by simp
  simp only [World.size_alloc] at m1
  go_enter Tryz.func128, Tryz.ntmps128
  go_wp2
  go_loopw [12] (fun i wr => ∃ k x y : Nat, k ≤ n ∧ i = .int .i64 k ∧ RkTo mem l k x y ∧ MAt wr w.heap.size 0 0 ∧ MAt wr (w.heap.size + 1) x y ∧ Below w.heap.size w wr) (fun i _ => n - (intOf i).toNat)
  case atStart => exact ⟨0, 0, 0, Nat.zero_le _, rfl, h0, m0, m1, hbw⟩
  case round =>
    obtain ⟨k, x, y, hk, rfl, hinv, q0, q1, hb⟩ := hrel
    clear m0 m1 hbw hz h0
    have la := hinv.la
    have lb := hinv.lb
    by_cases hlt : k < n
    · have hAr := hA.below (hb.mono hB)
      obtain ⟨ad, hl, rfl, hbl, hc⟩ := hAr.at_ prOk hlt
      have hyes := fun hm => hinv.yes hl hs hm
      have hno := fun hm => hinv.no hl hm
      obtain ⟨p, hpp⟩ : ∃ p, p = l[k] := ⟨_, rfl⟩
      rw [← hpp] at hc hyes hno
      obtain ⟨c0, c1⟩ := pr_at hc
      obtain ⟨D, hD, hhas, hval⟩ := (hp.later hb).look p
      have hkey := key_pr p
      have hb1 : Below w.heap.size w (wr.alloc (.cells #[.int .u16 p.i, .int .u32 p.k] 44)) := hb.alloc hb.size _
      have p0 := q0.alloc (.cells #[.int .u16 p.i, .int .u32 p.k] 44)
      have p1 := q1.alloc (.cells #[.int .u16 p.i, .int .u32 p.k] 44)
      have g0 := p1.c0
      have g1 := p1.c1
      clear hpp hc hAr hinv
      by_cases hin : p ∈ mem
      · have hr : plc mem p < 128 := by have := plc_lt hin; omega
        have hst := hyes hin
        rw [decide_eq_true hin] at hhas
        rw [show plc0 mem p = plc mem p from if_pos hin] at hval
        generalize plc mem p = j at *
        have cw := fun W => with_any x y j W la lb hr
        generalize putA x j = x' at *
        generalize putB y j = y' at *
        clear hyes hno hin q0 q1
        go_wp2_with (at_lookup; refine wpList_lookup_knownP _ rfl _ _ 124 rfl 44 3 .i64 lawPid Tryz.underlying124 underIntP (zeroIntP _) b N D rfl (hD.alloc _) _ _ rfl hkey (j : Int) hval true hhas ?_)
        refine (cw _).mono ?_
        rintro e w1 ⟨rfl, hb2⟩
        have r0 := p0.later hb2
        have r1 := p1.later hb2
        have hb3 := hb1.trans (hb2.mono hb1.size)
        have d4 := r1.fz 0
        have d5 := r1.fz 1
        have d6 := r1.c0
        have d7 := r1.c1
        have s1 := r1.set_ x' y'
        have s0 : MAt ((w1.setCell ⟨w.heap.size + 1, 0, none⟩ (.int .u64 x')).setCell ⟨w.heap.size + 1, 1, none⟩ (.int .u64 y')) w.heap.size 0 0 := (r0.other _ (by simp)).other _ (by simp)
        have s2 : Below w.heap.size w ((w1.setCell ⟨w.heap.size + 1, 0, none⟩ (.int .u64 x')).setCell ⟨w.heap.size + 1, 1, none⟩ (.int .u64 y')) := (hb3.setCell (by simp) _).setCell (by simp) _
        clear hb1 hb2 hb3 p0 p1 r0 r1 cw g0 g1 hD hhas hval c0 c1
        go_wp2_with fail
        go_roundw
        case rel => exact ⟨k + 1, x', y', by omega, by go_num, hst, s0, s1, s2⟩
        case measure => simp [intOf]; omega
      · have hst := hno hin
        rw [decide_eq_false hin] at hhas
        rw [show plc0 mem p = 0 from if_neg hin] at hval
        clear hyes hno hin q0 q1
        go_wp2_with (at_lookup; refine wpList_lookup_knownP _ rfl _ _ 124 rfl 44 3 .i64 lawPid Tryz.underlying124 underIntP (zeroIntP _) b N D rfl (hD.alloc _) _ _ rfl hkey _ hval false hhas ?_)
        go_roundw
        case rel => exact ⟨k + 1, x, y, by omega, by go_num, hst, p0, p1, hb1⟩
        case measure => simp [intOf]; omega
    · have hd := hinv.done (by rw [HL.out]; omega)
      have HD := hide hd
      have e0 := q0.c0
      have e1 := q0.c1
      have e2 := q0.fz 0
      have e3 := q0.fz 1
      have e4 := q1.c0
      have e5 := q1.c1
      have s1 := q0.set_ x y
      have s2 : Below w.heap.size w ((wr.setCell ⟨w.heap.size, 0, none⟩ (.int .u64 x)).setCell ⟨w.heap.size, 1, none⟩ (.int .u64 y)) := (hb.setCell (by simp) _).setCell (by simp) _
      clear hd hinv
      go_wp2
      rw [← HD.out.1, ← HD.out.2]
      have t0 := s1.c0
      have t1 := s1.c1
      clear e0 e1 e2 e3 e4 e5 hb q0 q1 s1
      generalize (wr.setCell ⟨w.heap.size, 0, none⟩ (.int .u64 x)).setCell ⟨w.heap.size, 1, none⟩ (.int .u64 y) = w9 at *
      exact bodyPost_ret (v := .agg #[.int .u64 x, .int .u64 y]) (by simp [results, Tryz.results128, go_sem, t0, t1]) rfl ⟨rfl, s2⟩
end Go.Proofs.YtjmkecaljkcoiaaGreatDoor
namespace Go.Proofs.YtjmkecaljkcoiaaGreatDoor
open Go.RowKit Go.Maps
set_option linter.unusedVariables false
set_option linter.unusedSimpArgs false
theorem cellL {w w' : World} {a : Addr} {v : Value} (h : w.cell? a = some v) (hb : Below w.heap.size w w') : w'.cell? a = some v := (hb.cell (World.block_lt_of_cell? w a h)).trans h
structure IdTo (l : List Pr) (k a b : Nat) : Prop where
  lo : a = loM (idsB (l.take k))
  hi : b = hiM (idsB (l.take k))
  each : ∀ p ∈ l.take k, p.i < 16 ∧ 0 < p.k
theorem IdTo.start (l : List Pr) : IdTo l 0 0 0 := by
  have h := mask_of (a := 0) (b := 0) (p := idsB []) (by decide) (by decide) (fun i _ => by rw [zero_bit]; simp [idsB])
  exact ⟨by rw [List.take_zero, h.1], by rw [List.take_zero, h.2], fun p hp => by simp at hp⟩
theorem IdTo.la {l : List Pr} {k a b : Nat} (h : IdTo l k a b) : a < 18446744073709551616 := by rw [h.lo]; exact loM_lt _
theorem IdTo.lb {l : List Pr} {k a b : Nat} (h : IdTo l k a b) : b < 18446744073709551616 := by rw [h.hi]; exact hiM_lt _
theorem mayP_iff (p : Pr) : mayP p = true ↔ p.i < 16 ∧ 0 < p.k := by unfold mayP; rw [Bool.and_eq_true, decide_eq_true_eq, decide_eq_true_eq]
theorem IdTo.step {l : List Pr} {k a b : Nat} (h : IdTo l k a b) (hk : k < l.length) (hm : mayP l[k] = true) : IdTo l (k + 1) (putA a l[k].i) (putB b l[k].i) := by
  have hm' := (mayP_iff _).1 hm
  have h1 := put_of (idsB (l.take k)) l[k].i (by omega)
  have h2 := of_congr (p := idsB (l.take (k + 1))) (q := fun i => idsB (l.take k) i || decide (i = l[k].i)) fun i _ => by rw [List.take_succ_eq_append_getElem hk, idsB_snoc]
  refine ⟨by rw [h2.1, h1.1, h.lo], by rw [h2.2, h1.2, h.hi], fun p hp => ?_⟩
  rw [List.take_succ_eq_append_getElem hk, List.mem_append, List.mem_singleton] at hp
  exact hp.elim (h.each p) (fun e => e ▸ hm')
theorem IdTo.stop {l : List Pr} {k : Nat} (hk : k < l.length) (hm : mayP l[k] = false) : ¬ MayMem l := fun h => by
  rw [(mayP_iff _).2 (h.each _ (List.getElem_mem hk))] at hm
  cases hm
theorem IdTo.done {l : List Pr} {k a b : Nat} (h : IdTo l k a b) (hk : l.length ≤ k) (h1 : 1 ≤ l.length) (h2 : l.length ≤ 24) : popM a b = l.length ↔ MayMem l := by
  obtain ⟨e1, e2, e3⟩ := h
  rw [List.take_of_length_le hk] at e1 e2 e3
  subst e1; subst e2
  rw [ids_count l (fun p hp => (e3 p hp).1)]
  exact ⟨fun h => ⟨h1, h2, e3, h⟩, fun h => h.ids⟩
theorem not_of_iff {t : Bool} {P : Prop} (h : t = true ↔ P) (hn : ¬ P) : t = false := by
  cases t
  · rfl
  · exact absurd (h.1 rfl) hn
set_option maxRecDepth 100000 in
theorem mbm_any (A : Option Addr) (n c : Nat) (l : List Pr) (B : Nat) (w : World) (t : Bool) (hA : Es prC w B A n l) (hB : B ≤ w.heap.size) (hn : n ≤ maxLen) (ht : t = true ↔ MayMem l) :
    Calls Tryz.prog 80 #[.slice A n c] w fun e w' => e = .returned (.bool t) ∧ Below w.heap.size w w' := by
  unfold maxLen at hn
  have hlen := hA.len
  by_cases h1 : n < 1
  · have hf := not_of_iff ht (fun h => by have := h.one; omega)
    subst hf
    have z1 : decide ((n : Int) < 1) = true := decide_eq_true (by omega)
    clear ht hlen
    go_enter Tryz.func80, Tryz.ntmps80
    go_wp2
    go_ret
    exact ⟨rfl, Below.refl _ _⟩
  · by_cases h2 : 24 < n
    · have hf := not_of_iff ht (fun h => by have := h.most; omega)
      subst hf
      have z1 : decide ((n : Int) < 1) = false := decide_eq_false (by omega)
      have z2 : decide (24 < (n : Int)) = true := decide_eq_true (by omega)
      clear ht hlen
      go_enter Tryz.func80, Tryz.ntmps80
      go_wp2
      go_ret
      exact ⟨rfl, Below.refl _ _⟩
    · have z1 : decide ((n : Int) < 1) = false := decide_eq_false (by omega)
      have z2 : decide (24 < (n : Int)) = false := decide_eq_false (by omega)
      have hlo : 1 ≤ n := by omega
      have hhi : n ≤ 24 := by omega
      have h0 := IdTo.start l
      have m0 := MAt.mk_ w 0 0
      have hbw : Below w.heap.size w (w.alloc (.cells #[.int .u64 0, .int .u64 0] 164)) := (Below.refl _ _).alloc (Nat.le_refl _) _
      have HL := hide hlen
      have HT := hide ht
      clear hlen ht hn h1 h2
      go_enter Tryz.func80, Tryz.ntmps80
      go_wp2
      clear z1 z2
      go_loopw [16] (fun i wr => ∃ k x y : Nat, k ≤ n ∧ i = .int .i64 k ∧ IdTo l k x y ∧ MAt wr w.heap.size x y ∧ Below w.heap.size w wr) (fun i _ => n - (intOf i).toNat)
      case atStart => exact ⟨0, 0, 0, Nat.zero_le _, rfl, h0, m0, hbw⟩
      case round =>
        obtain ⟨k, x, y, hk, rfl, hinv, q0, hb⟩ := hrel
        clear m0 hbw h0
        have la := hinv.la
        have lb := hinv.lb
        by_cases hlt : k < n
        · have hAr := hA.below (hb.mono hB)
          obtain ⟨ad, hl, rfl, hbl, hc⟩ := hAr.at_ prOk hlt
          have hyes := fun hm => hinv.step hl hm
          have hno := fun hm => IdTo.stop hl hm
          obtain ⟨p, hpp⟩ : ∃ p, p = l[k] := ⟨_, rfl⟩
          rw [← hpp] at hc hyes hno
          obtain ⟨c0, c1⟩ := pr_at hc
          have hb1 : Below w.heap.size w (wr.alloc (.cells #[.int .u16 p.i, .int .u32 p.k] 44)) := hb.alloc hb.size _
          have p0 := q0.alloc (.cells #[.int .u16 p.i, .int .u32 p.k] 44)
          have cm := fun W => may_any p W
          have hpi : mayP p = true → p.i < 128 := fun h => by have := ((mayP_iff p).1 h).1; omega
          have HP := hide hpi
          clear hpp hc hAr hinv hpi q0
          generalize mayP p = v at *
          have u0 : (wr.alloc (.cells #[.int .u16 p.i, .int .u32 p.k] 44)).cell? ⟨wr.heap.size, 0, none⟩ = some (.int .u16 p.i) := by go_simp
          cases v
          · have hf := not_of_iff HT.out (hno rfl)
            have HF := hide hf
            clear hyes hno hf
            go_wp2_with fail
            refine (cm _).mono ?_
            rintro e w1 ⟨rfl, hb2⟩
            have hb3 := hb1.trans (hb2.mono hb1.size)
            go_wp2
            go_ret
            exact ⟨ret_bool HF.out.symm, hb3⟩
          · have hr := HP.out rfl
            have hst := hyes rfl
            have cw := fun W => with_any x y p.i W la lb hr
            generalize putA x p.i = x' at *
            generalize putB y p.i = y' at *
            clear hyes hno
            go_wp2_with fail
            refine (cm _).mono ?_
            rintro e w1 ⟨rfl, hb2⟩
            have p1 := p0.later hb2
            have hb3 := hb1.trans (hb2.mono hb1.size)
            have g0 := p1.c0
            have g1 := p1.c1
            have u1 := cellL u0 hb2
            clear hb1 hb2 p0 u0 c0 c1
            go_wp2_with fail
            refine (cw _).mono ?_
            rintro e w2 ⟨rfl, hb4⟩
            have r1 := p1.later hb4
            have hb5 := hb3.trans (hb4.mono hb3.size)
            have d4 := r1.fz 0
            have d5 := r1.fz 1
            have d6 := r1.c0
            have d7 := r1.c1
            have s1 := r1.set_ x' y'
            have s2 : Below w.heap.size w ((w2.setCell ⟨w.heap.size, 0, none⟩ (.int .u64 x')).setCell ⟨w.heap.size, 1, none⟩ (.int .u64 y')) := (hb5.setCell (by simp) _).setCell (by simp) _
            clear hb3 hb4 hb5 p1 r1 cw cm g0 g1 u1
            go_wp2_with fail
            go_roundw
            case rel => exact ⟨k + 1, x', y', by omega, by go_num, hst, s1, s2⟩
            case measure => simp [intOf]; omega
        · have hd := hinv.done (by rw [HL.out]; omega) (by rw [HL.out]; exact hlo) (by rw [HL.out]; exact hhi)
          rw [HL.out] at hd
          have cc := fun W => count_any x y W la lb
          have hpm := popM_le x y
          generalize popM x y = s at *
          have e0 := q0.c0
          have e1 := q0.c1
          have ht2 : decide ((s : Int) = (n : Int)) = t := by
            have h3 := HT.out
            cases t
            · exact decide_eq_false (fun h => by have := h3.2 (hd.1 (by omega)); cases this)
            · exact decide_eq_true (by have := hd.2 (h3.1 rfl); omega)
          have HX := hide ht2
          clear hd hinv ht2
          go_wp2_with fail
          refine (cc _).mono ?_
          rintro e w1 ⟨rfl, hb2⟩
          have hb3 := hb.trans (hb2.mono hb.size)
          clear hb hb2 e0 e1 q0 cc
          go_wp2
          go_ret
          exact ⟨ret_bool (by
            rw [← HX.out]
            first | rfl | (rw [Bool.eq_iff_iff]; simp; done) | (rw [Bool.eq_iff_iff]; simp; omega)), hb3⟩
end Go.Proofs.YtjmkecaljkcoiaaGreatDoor
