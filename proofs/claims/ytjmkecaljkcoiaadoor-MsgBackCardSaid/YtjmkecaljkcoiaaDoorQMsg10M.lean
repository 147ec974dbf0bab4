import Derived.Test.YtjmkecaljkcoiaaDoorQCmd6
namespace Go.Proofs.YtjmkecaljkcoiaaDoor
open Go.RowKit
set_option linter.unusedVariables false
set_option linter.unusedSimpArgs false
def truS (s : RS) : Bool × RS := if s.t = 0 then (if truE s.l = 0 then (truV s.l, ⟨s.l.drop 1, 0⟩) else (false, ⟨s.l, truE s.l⟩)) else (false, s)
def blOf (l : List UInt8) : Bl := ⟨(getF l).1 % 4294967296, prOf (l.drop (getF l).2.1), Nat.mod_lt _ (by decide)⟩
def balS (s : RS) : Bl × RS := if s.t = 0 then (if balE s.l = 0 then (blOf s.l, ⟨(s.l.drop (getF s.l).2.1).drop (pidG (s.l.drop (getF s.l).2.1)).2.2.1, 0⟩) else (default, ⟨s.l, balE s.l⟩)) else (default, s)
theorem truS_stop {s : RS} (h : s.t ≠ 0) : truS s = (false, s) := if_neg h
theorem balS_stop {s : RS} (h : s.t ≠ 0) : balS s = (default, s) := if_neg h
theorem truS_len (s : RS) : (truS s).2.l.length ≤ s.l.length := by
  unfold truS; split
  · split
    · simp
    · exact Nat.le_refl _
  · exact Nat.le_refl _
theorem balS_len (s : RS) : (balS s).2.l.length ≤ s.l.length := by
  unfold balS; split
  · split
    · simp only [List.length_drop]; omega
    · exact Nat.le_refl _
  · exact Nat.le_refl _
theorem bal_fits {l : List UInt8} (h : balE l = 0) : (getF l).1 < 4294967296 := by
  unfold balE at h
  split at h
  · next h1 => have := numE_le h1; omega
  · next h1 => exact absurd h h1
def kindM (k : Nat) : Ms := ⟨(k : Int), default, 0, 0, 0, 0, default, default, false, zC 0 noV, noV, []⟩
def st0 (q : Nat) (x : Ms × RS) : Ms × RS := if q.testBit 0 then ({ x.1 with who := (pidQ x.2).1 }, (pidQ x.2).2) else x
def st1 (q : Nat) (x : Ms × RS) : Ms × RS := if q.testBit 1 then ({ x.1 with view := (numS 4611686018427387904 x.2).1 }, (numS 4611686018427387904 x.2).2) else x
def st2 (q : Nat) (x : Ms × RS) : Ms × RS := if q.testBit 2 then ({ x.1 with slot := (numS 4611686018427387904 x.2).1 }, (numS 4611686018427387904 x.2).2) else x
def st3 (q : Nat) (x : Ms × RS) : Ms × RS := if q.testBit 3 then ({ x.1 with b := (balS x.2).1 }, (balS x.2).2) else x
def st4 (q : Nat) (x : Ms × RS) : Ms × RS := if q.testBit 4 then ({ x.1 with num := (numS 4611686018427387904 x.2).1 }, (numS 4611686018427387904 x.2).2) else x
def st5 (q : Nat) (x : Ms × RS) : Ms × RS := if q.testBit 5 then ({ x.1 with hops := ((numS 4 x.2).1 : Nat) }, (numS 4 x.2).2) else x
def st6 (q : Nat) (x : Ms × RS) : Ms × RS := if q.testBit 6 then ({ x.1 with has := (truS x.2).1 }, (truS x.2).2) else x
def st7 (q : Nat) (x : Ms × RS) : Ms × RS := if q.testBit 7 then ({ x.1 with a := (balS x.2).1 }, (balS x.2).2) else x
noncomputable def st8 (q : Nat) (x : Ms × RS) : Ms × RS := if q.testBit 8 then ({ x.1 with c := (cmdS x.2).1 }, (cmdS x.2).2) else x
noncomputable def st9 (q : Nat) (x : Ms × RS) : Ms × RS := if q.testBit 9 then ({ x.1 with v := (viewS x.2).1 }, (viewS x.2).2) else x
def st10 (q : Nat) (x : Ms × RS) : Ms × RS := if q.testBit 10 then ({ x.1 with d := (bytS 200 x.2).1 }, (bytS 200 x.2).2) else x
def getA (k : Nat) (s : RS) : Ms × RS := st6 (tabM k) (st5 (tabM k) (st4 (tabM k) (st3 (tabM k) (st2 (tabM k) (st1 (tabM k) (st0 (tabM k) (kindM k, s)))))))
noncomputable def getB (q : Nat) (x : Ms × RS) : Ms × RS := st10 q (st9 q (st8 q (st7 q x)))
noncomputable def getM (s : RS) : Ms × RS := getB (bitsM (numS 14 s).1 (getA (numS 14 s).1 (numS 14 s).2).1.has) (getA (numS 14 s).1 (numS 14 s).2)
open Classical in
noncomputable def decM (l : List UInt8) : Ms × Nat :=
  if endF (getM ⟨l, 0⟩).2.l (getM ⟨l, 0⟩).2.t ≠ 0 then (kindM 0, endF (getM ⟨l, 0⟩).2.l (getM ⟨l, 0⟩).2.t) else if MayM (getM ⟨l, 0⟩).1 then ((getM ⟨l, 0⟩).1, 0) else (kindM 0, 5)
theorem truS_front (t : Bool) (l : List UInt8) : truS ⟨[if t then 1 else 0] ++ l, 0⟩ = (t, ⟨l, 0⟩) := by cases t <;> rfl
theorem balS_front (b : Bl) (t : List UInt8) : balS ⟨balL b ++ t, 0⟩ = (b, ⟨t, 0⟩) := by
  have hr := b.hr
  have e1 := numE_front b.r 4294967295 (pidL b.p.i b.p.k ++ t) (by omega) (by omega)
  have e2 := rest_front b.r (pidL b.p.i b.p.k ++ t) (by omega)
  have e3 := getF_short b.r (pidL b.p.i b.p.k ++ t) (by omega)
  have e4 := pidG_put b.p.i b.p.k t b.p.hi b.p.hk
  have e5 : balL b ++ t = shortL b.r ++ (pidL b.p.i b.p.k ++ t) := List.append_assoc _ _ _
  have hE : balE (shortL b.r ++ (pidL b.p.i b.p.k ++ t)) = 0 := by unfold balE; rw [if_pos e1, e2, e4]
  unfold balS
  simp only [if_true]
  rw [e5, if_pos hE, e2, e4]
  have e6 : blOf (shortL b.r ++ (pidL b.p.i b.p.k ++ t)) = b := by
    refine Bl.ext ?_ ?_
    · show (getF _).1 % 4294967296 = b.r
      rw [e3]; exact Nat.mod_eq_of_lt b.hr
    · show prOf _ = b.p
      rw [e2]
      exact Pr.ext (by show (pidG _).1 = _; rw [e4]) (by show (pidG _).2.1 = _; rw [e4])
  rw [e6]
  simp
theorem low_bit (kk : Nat) (t : Bool) {i : Nat} (hi : i < 7) : hasF (kk : Int) t i = (tabM kk).testBit i := by
  unfold hasF bitsM
  by_cases h : (kk : Int) = 5 ∧ t = true
  · rw [if_pos h, show kk = 5 by omega]
    have : i = 0 ∨ i = 1 ∨ i = 2 ∨ i = 3 ∨ i = 4 ∨ i = 5 ∨ i = 6 := by omega
    rcases this with rfl | rfl | rfl | rfl | rfl | rfl | rfl <;> decide
  · rw [if_neg h, Int.toNat_natCast]
theorem getM_front {m : Ms} (h : MayM m) (t : List UInt8) : getM ⟨formM m ++ t, 0⟩ = (m, ⟨t, 0⟩) := by
  obtain ⟨h0, hE⟩ := h
  obtain ⟨k, who, view, slot, num, hops, b, a, has, c, v, d⟩ := m
  have hk := bitsM_some.1 h0
  simp only at hk h0
  obtain ⟨kk, rfl⟩ := Int.eq_ofNat_of_zero_le (show 0 ≤ k by omega)
  obtain ⟨q, hq⟩ : ∃ q, q = bitsM (kk : Int) has := ⟨_, rfl⟩
  have s0 : ∀ T, st0 (tabM kk) (⟨(kk : Int), default, 0, 0, 0, 0, default, default, false, zC 0 noV, noV, []⟩, ⟨optF ⟨(kk : Int), who, view, slot, num, hops, b, a, has, c, v, d⟩ 0 ++ T, 0⟩) = (⟨(kk : Int), who, 0, 0, 0, 0, default, default, false, zC 0 noV, noV, []⟩, ⟨T, 0⟩) := by
    intro T
    have hh := hE 0 (by decide)
    unfold st0 optF
    rw [low_bit kk has (by decide)] at *
    cases hb : (tabM kk).testBit 0
    · have hz := hh.2 hb
      simp only [zeroF] at hz
      subst hz
      simp
    · have hr := hh.1 hb
      have e := pidQ_front who T
      simp only [if_true]
      erw [e]
  have s1 : ∀ T, st1 (tabM kk) (⟨(kk : Int), who, 0, 0, 0, 0, default, default, false, zC 0 noV, noV, []⟩, ⟨optF ⟨(kk : Int), who, view, slot, num, hops, b, a, has, c, v, d⟩ 1 ++ T, 0⟩) = (⟨(kk : Int), who, view, 0, 0, 0, default, default, false, zC 0 noV, noV, []⟩, ⟨T, 0⟩) := by
    intro T
    have hh := hE 1 (by decide)
    unfold st1 optF
    rw [low_bit kk has (by decide)] at *
    cases hb : (tabM kk).testBit 1
    · have hz := hh.2 hb
      simp only [zeroF] at hz
      subst hz
      simp
    · have hr := hh.1 hb
      have e := numS_front view 4611686018427387904 T (by have := hr; simp only [rightF] at this; omega) hr
      simp only [if_true]
      erw [e]
  have s2 : ∀ T, st2 (tabM kk) (⟨(kk : Int), who, view, 0, 0, 0, default, default, false, zC 0 noV, noV, []⟩, ⟨optF ⟨(kk : Int), who, view, slot, num, hops, b, a, has, c, v, d⟩ 2 ++ T, 0⟩) = (⟨(kk : Int), who, view, slot, 0, 0, default, default, false, zC 0 noV, noV, []⟩, ⟨T, 0⟩) := by
    intro T
    have hh := hE 2 (by decide)
    unfold st2 optF
    rw [low_bit kk has (by decide)] at *
    cases hb : (tabM kk).testBit 2
    · have hz := hh.2 hb
      simp only [zeroF] at hz
      subst hz
      simp
    · have hr := hh.1 hb
      have e := numS_front slot 4611686018427387904 T (by have := hr; simp only [rightF] at this; omega) hr
      simp only [if_true]
      erw [e]
  have s3 : ∀ T, st3 (tabM kk) (⟨(kk : Int), who, view, slot, 0, 0, default, default, false, zC 0 noV, noV, []⟩, ⟨optF ⟨(kk : Int), who, view, slot, num, hops, b, a, has, c, v, d⟩ 3 ++ T, 0⟩) = (⟨(kk : Int), who, view, slot, 0, 0, b, default, false, zC 0 noV, noV, []⟩, ⟨T, 0⟩) := by
    intro T
    have hh := hE 3 (by decide)
    unfold st3 optF
    rw [low_bit kk has (by decide)] at *
    cases hb : (tabM kk).testBit 3
    · have hz := hh.2 hb
      simp only [zeroF] at hz
      subst hz
      simp
    · have hr := hh.1 hb
      have e := balS_front b T
      simp only [if_true]
      erw [e]
  have s4 : ∀ T, st4 (tabM kk) (⟨(kk : Int), who, view, slot, 0, 0, b, default, false, zC 0 noV, noV, []⟩, ⟨optF ⟨(kk : Int), who, view, slot, num, hops, b, a, has, c, v, d⟩ 4 ++ T, 0⟩) = (⟨(kk : Int), who, view, slot, num, 0, b, default, false, zC 0 noV, noV, []⟩, ⟨T, 0⟩) := by
    intro T
    have hh := hE 4 (by decide)
    unfold st4 optF
    rw [low_bit kk has (by decide)] at *
    cases hb : (tabM kk).testBit 4
    · have hz := hh.2 hb
      simp only [zeroF] at hz
      subst hz
      simp
    · have hr := hh.1 hb
      have e := numS_front num 4611686018427387904 T (by have := hr; simp only [rightF] at this; omega) hr
      simp only [if_true]
      erw [e]
  have s5 : ∀ T, st5 (tabM kk) (⟨(kk : Int), who, view, slot, num, 0, b, default, false, zC 0 noV, noV, []⟩, ⟨optF ⟨(kk : Int), who, view, slot, num, hops, b, a, has, c, v, d⟩ 5 ++ T, 0⟩) = (⟨(kk : Int), who, view, slot, num, hops, b, default, false, zC 0 noV, noV, []⟩, ⟨T, 0⟩) := by
    intro T
    have hh := hE 5 (by decide)
    unfold st5 optF
    rw [low_bit kk has (by decide)] at *
    cases hb : (tabM kk).testBit 5
    · have hz := hh.2 hb
      simp only [zeroF] at hz
      subst hz
      simp
    · have hr := hh.1 hb
      have e := numS_front hops.toNat 4 T (by have := hr; simp only [rightF] at this; omega) (by have := hr; simp only [rightF] at this; omega)
      have e2 : fldF ⟨(kk : Int), who, view, slot, num, hops, b, a, has, c, v, d⟩ 5 ++ T = shortL hops.toNat ++ T := rfl
      simp only [if_true]
      rw [e2, e]
      simp only [rightF] at hr
      rw [show ((hops.toNat : Nat) : Int) = hops by omega]
  have s6 : ∀ T, st6 (tabM kk) (⟨(kk : Int), who, view, slot, num, hops, b, default, false, zC 0 noV, noV, []⟩, ⟨optF ⟨(kk : Int), who, view, slot, num, hops, b, a, has, c, v, d⟩ 6 ++ T, 0⟩) = (⟨(kk : Int), who, view, slot, num, hops, b, default, has, zC 0 noV, noV, []⟩, ⟨T, 0⟩) := by
    intro T
    have hh := hE 6 (by decide)
    unfold st6 optF
    rw [low_bit kk has (by decide)] at *
    cases hb : (tabM kk).testBit 6
    · have hz := hh.2 hb
      simp only [zeroF] at hz
      subst hz
      simp
    · have hr := hh.1 hb
      have e := truS_front has T
      simp only [if_true]
      erw [e]
  have s7 : ∀ T, st7 q (⟨(kk : Int), who, view, slot, num, hops, b, default, has, zC 0 noV, noV, []⟩, ⟨optF ⟨(kk : Int), who, view, slot, num, hops, b, a, has, c, v, d⟩ 7 ++ T, 0⟩) = (⟨(kk : Int), who, view, slot, num, hops, b, a, has, zC 0 noV, noV, []⟩, ⟨T, 0⟩) := by
    intro T
    have hh := hE 7 (by decide)
    unfold st7 optF
    rw [show hasF (kk : Int) has 7 = q.testBit 7 from by rw [hq]; rfl] at *
    cases hb : q.testBit 7
    · have hz := hh.2 hb
      simp only [zeroF] at hz
      subst hz
      simp
    · have hr := hh.1 hb
      have e := balS_front a T
      simp only [if_true]
      erw [e]
  have s8 : ∀ T, st8 q (⟨(kk : Int), who, view, slot, num, hops, b, a, has, zC 0 noV, noV, []⟩, ⟨optF ⟨(kk : Int), who, view, slot, num, hops, b, a, has, c, v, d⟩ 8 ++ T, 0⟩) = (⟨(kk : Int), who, view, slot, num, hops, b, a, has, c, noV, []⟩, ⟨T, 0⟩) := by
    intro T
    have hh := hE 8 (by decide)
    unfold st8 optF
    rw [show hasF (kk : Int) has 8 = q.testBit 8 from by rw [hq]; rfl] at *
    cases hb : q.testBit 8
    · have hz := hh.2 hb
      simp only [zeroF] at hz
      subst hz
      simp
    · have hr := hh.1 hb
      have e := cmdS_front hr T
      simp only [if_true]
      erw [e]
  have s9 : ∀ T, st9 q (⟨(kk : Int), who, view, slot, num, hops, b, a, has, c, noV, []⟩, ⟨optF ⟨(kk : Int), who, view, slot, num, hops, b, a, has, c, v, d⟩ 9 ++ T, 0⟩) = (⟨(kk : Int), who, view, slot, num, hops, b, a, has, c, v, []⟩, ⟨T, 0⟩) := by
    intro T
    have hh := hE 9 (by decide)
    unfold st9 optF
    rw [show hasF (kk : Int) has 9 = q.testBit 9 from by rw [hq]; rfl] at *
    cases hb : q.testBit 9
    · have hz := hh.2 hb
      simp only [zeroF] at hz
      subst hz
      simp
    · have hr := hh.1 hb
      have e := viewS_front hr T
      simp only [if_true]
      erw [e]
  have s10 : ∀ T, st10 q (⟨(kk : Int), who, view, slot, num, hops, b, a, has, c, v, []⟩, ⟨optF ⟨(kk : Int), who, view, slot, num, hops, b, a, has, c, v, d⟩ 10 ++ T, 0⟩) = (⟨(kk : Int), who, view, slot, num, hops, b, a, has, c, v, d⟩, ⟨T, 0⟩) := by
    intro T
    have hh := hE 10 (by decide)
    unfold st10 optF
    rw [show hasF (kk : Int) has 10 = q.testBit 10 from by rw [hq]; rfl] at *
    cases hb : q.testBit 10
    · have hz := hh.2 hb
      simp only [zeroF] at hz
      subst hz
      simp
    · have hr := hh.1 hb
      simp only [rightF] at hr
      have e := bytS_front d T 200 hr (by omega)
      have e2 : fldF ⟨(kk : Int), who, view, slot, num, hops, b, a, has, c, v, d⟩ 10 ++ T = shortL d.length ++ (d ++ T) := List.append_assoc _ _ _
      simp only [if_true]
      rw [e2, e]
  unfold getM formM
  rw [List.append_assoc, Int.toNat_natCast, numS_front _ _ _ (by omega) (by omega)]
  dsimp only
  have hA : ∀ T, getA kk ⟨(optF ⟨(kk : Int), who, view, slot, num, hops, b, a, has, c, v, d⟩ 0 ++ (optF ⟨(kk : Int), who, view, slot, num, hops, b, a, has, c, v, d⟩ 1 ++ (optF ⟨(kk : Int), who, view, slot, num, hops, b, a, has, c, v, d⟩ 2 ++ (optF ⟨(kk : Int), who, view, slot, num, hops, b, a, has, c, v, d⟩ 3 ++ (optF ⟨(kk : Int), who, view, slot, num, hops, b, a, has, c, v, d⟩ 4 ++ (optF ⟨(kk : Int), who, view, slot, num, hops, b, a, has, c, v, d⟩ 5 ++ (optF ⟨(kk : Int), who, view, slot, num, hops, b, a, has, c, v, d⟩ 6))))))) ++ T, 0⟩ = (⟨(kk : Int), who, view, slot, num, hops, b, default, has, zC 0 noV, noV, []⟩, ⟨T, 0⟩) := by
    intro T
    unfold getA kindM
    simp only [List.append_assoc]
    rw [s0, s1, s2, s3, s4, s5, s6]
  have hB : ∀ T, getB q (⟨(kk : Int), who, view, slot, num, hops, b, default, has, zC 0 noV, noV, []⟩, ⟨(optF ⟨(kk : Int), who, view, slot, num, hops, b, a, has, c, v, d⟩ 7 ++ (optF ⟨(kk : Int), who, view, slot, num, hops, b, a, has, c, v, d⟩ 8 ++ (optF ⟨(kk : Int), who, view, slot, num, hops, b, a, has, c, v, d⟩ 9 ++ (optF ⟨(kk : Int), who, view, slot, num, hops, b, a, has, c, v, d⟩ 10)))) ++ T, 0⟩) = (⟨(kk : Int), who, view, slot, num, hops, b, a, has, c, v, d⟩, ⟨T, 0⟩) := by
    intro T
    unfold getB
    simp only [List.append_assoc]
    rw [s7, s8, s9, s10]
  have e : (optF ⟨(kk : Int), who, view, slot, num, hops, b, a, has, c, v, d⟩ 0 ++ (optF ⟨(kk : Int), who, view, slot, num, hops, b, a, has, c, v, d⟩ 1 ++ (optF ⟨(kk : Int), who, view, slot, num, hops, b, a, has, c, v, d⟩ 2 ++ (optF ⟨(kk : Int), who, view, slot, num, hops, b, a, has, c, v, d⟩ 3 ++ (optF ⟨(kk : Int), who, view, slot, num, hops, b, a, has, c, v, d⟩ 4 ++ (optF ⟨(kk : Int), who, view, slot, num, hops, b, a, has, c, v, d⟩ 5 ++ (optF ⟨(kk : Int), who, view, slot, num, hops, b, a, has, c, v, d⟩ 6 ++ (optF ⟨(kk : Int), who, view, slot, num, hops, b, a, has, c, v, d⟩ 7 ++ (optF ⟨(kk : Int), who, view, slot, num, hops, b, a, has, c, v, d⟩ 8 ++ (optF ⟨(kk : Int), who, view, slot, num, hops, b, a, has, c, v, d⟩ 9 ++ (optF ⟨(kk : Int), who, view, slot, num, hops, b, a, has, c, v, d⟩ 10))))))))))) ++ t = (optF ⟨(kk : Int), who, view, slot, num, hops, b, a, has, c, v, d⟩ 0 ++ (optF ⟨(kk : Int), who, view, slot, num, hops, b, a, has, c, v, d⟩ 1 ++ (optF ⟨(kk : Int), who, view, slot, num, hops, b, a, has, c, v, d⟩ 2 ++ (optF ⟨(kk : Int), who, view, slot, num, hops, b, a, has, c, v, d⟩ 3 ++ (optF ⟨(kk : Int), who, view, slot, num, hops, b, a, has, c, v, d⟩ 4 ++ (optF ⟨(kk : Int), who, view, slot, num, hops, b, a, has, c, v, d⟩ 5 ++ (optF ⟨(kk : Int), who, view, slot, num, hops, b, a, has, c, v, d⟩ 6))))))) ++ ((optF ⟨(kk : Int), who, view, slot, num, hops, b, a, has, c, v, d⟩ 7 ++ (optF ⟨(kk : Int), who, view, slot, num, hops, b, a, has, c, v, d⟩ 8 ++ (optF ⟨(kk : Int), who, view, slot, num, hops, b, a, has, c, v, d⟩ 9 ++ (optF ⟨(kk : Int), who, view, slot, num, hops, b, a, has, c, v, d⟩ 10)))) ++ t) := by simp only [List.append_assoc]
  rw [e, hA]
  dsimp only
  rw [← hq, hB]
theorem decM_err {l : List UInt8} (h : endF (getM ⟨l, 0⟩).2.l (getM ⟨l, 0⟩).2.t ≠ 0) : decM l = (kindM 0, endF (getM ⟨l, 0⟩).2.l (getM ⟨l, 0⟩).2.t) := by unfold decM; rw [if_pos h]
theorem decM_yes {l : List UInt8} (h : endF (getM ⟨l, 0⟩).2.l (getM ⟨l, 0⟩).2.t = 0) (hm : MayM (getM ⟨l, 0⟩).1) : decM l = ((getM ⟨l, 0⟩).1, 0) := by unfold decM; rw [if_neg (by rw [h]; simp), if_pos hm]
theorem decM_no {l : List UInt8} (h : endF (getM ⟨l, 0⟩).2.l (getM ⟨l, 0⟩).2.t = 0) (hm : ¬ MayM (getM ⟨l, 0⟩).1) : decM l = (kindM 0, 5) := by unfold decM; rw [if_neg (by rw [h]; simp), if_neg hm]
theorem decM_front {m : Ms} (h : MayM m) : decM (formM m) = (m, 0) := by
  have e := getM_front h []
  rw [List.append_nil] at e
  unfold decM
  rw [e]
  simp [endF, h]
end Go.Proofs.YtjmkecaljkcoiaaDoor
