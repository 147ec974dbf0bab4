import Derived.Test.YtjmkecaljkcoiaaGreatDoorQViewB
namespace Go.Proofs.YtjmkecaljkcoiaaGreatDoor
open Go.RowKit Go.Maps
set_option linter.unusedVariables false
set_option linter.unusedSimpArgs false
structure MmTo (l : List Pr) (k : Nat) : Prop where
  each : ∀ p ∈ l.take k, p.i < 16 ∧ 0 < p.k
  ids : ((l.take k).map Pr.i).Nodup
theorem MmTo.start (l : List Pr) : MmTo l 0 := ⟨fun p h => by simp at h, by simp⟩
def IdNo (l : List Pr) (i k : Nat) : Prop := ∀ q ∈ l.take k, q.i ≠ i
theorem IdNo.start (l : List Pr) (i : Nat) : IdNo l i 0 := fun p h => by simp at h
theorem IdNo.step {l : List Pr} {i k : Nat} (h : IdNo l i k) (hk : k < l.length) (hn : l[k].i ≠ i) : IdNo l i (k + 1) := by
  unfold IdNo at *
  rw [List.take_succ_eq_append_getElem hk]
  intro q hq
  rw [List.mem_append, List.mem_singleton] at hq
  exact hq.elim (h q) (fun e => e ▸ hn)
theorem MmTo.step {l : List Pr} {k : Nat} (h : MmTo l k) (hk : k < l.length) (hm : mayP l[k] = true) (hn : IdNo l l[k].i k) : MmTo l (k + 1) := by
  refine ⟨fun p hp => ?_, ?_⟩
  · rw [List.take_succ_eq_append_getElem hk, List.mem_append, List.mem_singleton] at hp
    exact hp.elim (h.each p) (fun e => e ▸ (mayP_iff _).1 hm)
  · rw [List.take_succ_eq_append_getElem hk, List.map_append, List.nodup_append]
    refine ⟨h.ids, by simp, fun a ha b hb e => ?_⟩
    obtain ⟨q, hq, rfl⟩ := List.mem_map.1 ha
    simp at hb
    exact hn q hq (e.trans hb)
theorem MmTo.done {l : List Pr} {k : Nat} (h : MmTo l k) (hk : l.length ≤ k) (h1 : 1 ≤ l.length) (h2 : l.length ≤ 24) : MayMem l := by
  obtain ⟨e1, e2⟩ := h
  rw [List.take_of_length_le hk] at e1 e2
  exact ⟨h1, h2, e1, e2⟩
theorem MmTo.not {l : List Pr} {k : Nat} (hk : k < l.length) (hm : mayP l[k] = false) : ¬ MayMem l := fun h => by
  have := (mayP_iff _).2 (h.each _ (List.getElem_mem hk))
  rw [hm] at this
  cases this
theorem MmTo.twice {l : List Pr} {i k : Nat} (hk : k < i) (hi : i < l.length) (he : l[k].i = l[i].i) : ¬ MayMem l := fun h => by
  have h1 : (l.map Pr.i)[k]'(by simp; omega) = (l.map Pr.i)[i]'(by simp; omega) := by simp [he]
  have := (List.getElem_inj h.ids).1 h1
  omega
def OnTo (l : List Pr) (lvs : List (List Pr)) (k : Nat) : Prop := ∀ p ∈ l.take k, lvs.flatten.count p = 1
theorem OnTo.start (l : List Pr) (lvs : List (List Pr)) : OnTo l lvs 0 := fun p h => by simp at h
theorem OnTo.step {l : List Pr} {lvs : List (List Pr)} {k : Nat} (h : OnTo l lvs k) (hk : k < l.length) (hn : lvs.flatten.count l[k] = 1) : OnTo l lvs (k + 1) := by
  unfold OnTo at *
  rw [List.take_succ_eq_append_getElem hk]
  intro q hq
  rw [List.mem_append, List.mem_singleton] at hq
  exact hq.elim (h q) (fun e => e ▸ hn)
theorem OnTo.done {l : List Pr} {lvs : List (List Pr)} {k : Nat} (h : OnTo l lvs k) (hk : l.length ≤ k) : ∀ p ∈ l, lvs.flatten.count p = 1 := by
  unfold OnTo at h
  rwa [List.take_of_length_le hk] at h
def CtTo (lvs : List (List Pr)) (p : Pr) (k n : Nat) : Prop := n = (lvs.take k).flatten.count p
theorem CtTo.start (lvs : List (List Pr)) (p : Pr) : CtTo lvs p 0 0 := by simp [CtTo]
theorem CtTo.done {lvs : List (List Pr)} {p : Pr} {k n : Nat} (h : CtTo lvs p k n) (hk : lvs.length ≤ k) : n = lvs.flatten.count p := by
  unfold CtTo at h
  rwa [List.take_of_length_le hk] at h
def CjTo (lvs : List (List Pr)) (l : List Pr) (p : Pr) (k j n : Nat) : Prop := n = (lvs.take k).flatten.count p + (l.take j).count p
theorem CtTo.in_ {lvs : List (List Pr)} {p : Pr} {k n : Nat} (h : CtTo lvs p k n) (l : List Pr) : CjTo lvs l p k 0 n := by unfold CjTo; rw [List.take_zero, h]; simp
theorem CjTo.out_ {lvs : List (List Pr)} {l : List Pr} {p : Pr} {k j n : Nat} (h : CjTo lvs l p k j n) (hk : k < lvs.length) (hl : lvs[k] = l) (hj : l.length ≤ j) : CtTo lvs p (k + 1) n := by
  unfold CjTo at h
  unfold CtTo
  rw [flatten_take hk, List.count_append, hl, h, List.take_of_length_le hj]
theorem CjTo.yes {lvs : List (List Pr)} {l : List Pr} {p : Pr} {k j n : Nat} (h : CjTo lvs l p k j n) (hj : j < l.length) (he : l[j] = p) : CjTo lvs l p k (j + 1) (n + 1) := by
  unfold CjTo at *
  rw [List.take_succ_eq_append_getElem hj, List.count_append, he, h]
  simp
  omega
theorem CjTo.no {lvs : List (List Pr)} {l : List Pr} {p : Pr} {k j n : Nat} (h : CjTo lvs l p k j n) (hj : j < l.length) (he : l[j] ≠ p) : CjTo lvs l p k (j + 1) n := by
  unfold CjTo at *
  rw [List.take_succ_eq_append_getElem hj, List.count_append, h]
  simp [he]
def LrTo (mem : List Pr) (lvs : List (List Pr)) (k : Nat) : Prop := ∀ l ∈ lvs.take k, l ≠ [] ∧ RiseP mem l
theorem LrTo.start (mem : List Pr) (lvs : List (List Pr)) : LrTo mem lvs 0 := fun p h => by simp at h
theorem LrTo.step {mem : List Pr} {lvs : List (List Pr)} {k : Nat} (h : LrTo mem lvs k) (hk : k < lvs.length) (h1 : lvs[k] ≠ []) (h2 : RiseP mem lvs[k]) : LrTo mem lvs (k + 1) := by
  unfold LrTo at *
  rw [List.take_succ_eq_append_getElem hk]
  intro q hq
  rw [List.mem_append, List.mem_singleton] at hq
  exact hq.elim (h q) (fun e => e ▸ ⟨h1, h2⟩)
theorem LrTo.done {mem : List Pr} {lvs : List (List Pr)} {k : Nat} (h : LrTo mem lvs k) (hk : lvs.length ≤ k) : ∀ l ∈ lvs, l ≠ [] ∧ RiseP mem l := by
  unfold LrTo at h
  rwa [List.take_of_length_le hk] at h
set_option maxRecDepth 100000 in
set_option maxHeartbeats 2000000 in
theorem rcheck_any (x : Vw) (B : Nat) (w : World) (t : Bool) (h : VwIn w B x) (hs : VSmall x) (hB : B ≤ w.heap.size) (ht : t = true ↔ MayV x.v) :
    Calls Tryz.prog 12 #[.agg #[.int .u64 x.id, .slice x.A x.m x.c, .slice x.B x.d x.e, .slice x.C x.f x.g]] w fun e w' => e = .returned (.bool t) ∧ Below w.heap.size w w' := by
  obtain ⟨id, A, m, c, l, B', d, e, q, C, f, g, r⟩ := x
  have hbz : Below w.heap.size w (w.alloc (.cells #[.int .u64 id, .slice A m c, .slice B' d e, .slice C f g] 26)) := (Below.refl _ _).alloc (Nat.le_refl _) _
  have v0 : VAt (w.alloc (.cells #[.int .u64 id, .slice A m c, .slice B' d e, .slice C f g] 26)) w.heap.size ⟨id, A, m, c, l, B', d, e, q, C, f, g, r⟩ := VAt.mk_ w ⟨id, A, m, c, l, B', d, e, q, C, f, g, r⟩
  obtain ⟨hs1, hs2, hs3, hs4⟩ := hs
  obtain ⟨i1, i2, i3, i4, i5, i6, i7, i8, i9, i10, i11⟩ := h
  simp only [Vw.v] at ht
  dsimp only at *
  have hlen := i2.len
  have hlen2 := i5.len
  have hlen3 := i9.len
  have HT := hide ht
  clear ht
  by_cases h1 : id < 1
  · have hf := not_of_iff HT.out (fun h => by have := h.lo; dsimp only at this; omega)
    have z1 : decide ((id : Int) < 1) = true := decide_eq_true (by omega)
    have HF := hide hf
    clear hf
    go_enter Tryz.func12, Tryz.ntmps12
    go_wp2
    go_ret
    exact ⟨ret_bool HF.out.symm, hbz⟩
  have z1 : decide ((id : Int) < 1) = false := decide_eq_false (by omega)
  by_cases h2 : 4611686018427387904 < id
  · have hf := not_of_iff HT.out (fun h => by have := h.hi; dsimp only at this; omega)
    have z2 : decide ((4611686018427387904 : Int) < (id : Int)) = true := decide_eq_true (by omega)
    have HF := hide hf
    clear hf
    go_enter Tryz.func12, Tryz.ntmps12
    go_wp2
    go_ret
    exact ⟨ret_bool HF.out.symm, hbz⟩
  have z2 : decide ((4611686018427387904 : Int) < (id : Int)) = false := decide_eq_false (by omega)
  by_cases h3 : m < 1
  · have hf := not_of_iff HT.out (fun h => by have := h.mem.one; dsimp only at this; omega)
    have z3 : decide ((m : Int) < 1) = true := decide_eq_true (by omega)
    have HF := hide hf
    clear hf
    go_enter Tryz.func12, Tryz.ntmps12
    go_wp2
    go_ret
    exact ⟨ret_bool HF.out.symm, hbz⟩
  have z3 : decide ((m : Int) < 1) = false := decide_eq_false (by omega)
  by_cases h4 : 24 < m
  · have hf := not_of_iff HT.out (fun h => by have := h.mem.most; dsimp only at this; omega)
    have z4 : decide (24 < (m : Int)) = true := decide_eq_true (by omega)
    have HF := hide hf
    clear hf
    go_enter Tryz.func12, Tryz.ntmps12
    go_wp2
    go_ret
    exact ⟨ret_bool HF.out.symm, hbz⟩
  have z4 : decide (24 < (m : Int)) = false := decide_eq_false (by omega)
  by_cases h5 : m < d
  · have hf := not_of_iff HT.out (fun h => by have := h.lvs.firsts.len; rw [firstsP_len] at this; simp only [List.length_map] at this; omega)
    have z5 : decide ((m : Int) < (d : Int)) = true := decide_eq_true (by omega)
    have HF := hide hf
    clear hf
    go_enter Tryz.func12, Tryz.ntmps12
    go_wp2
    go_ret
    exact ⟨ret_bool HF.out.symm, hbz⟩
  have z5 : decide ((m : Int) < (d : Int)) = false := decide_eq_false (by omega)
  by_cases h6 : f < 1
  · have hf := not_of_iff HT.out (fun h => h.one (List.eq_nil_of_length_eq_zero (by dsimp only; omega)))
    have z6 : decide ((f : Int) < 1) = true := decide_eq_true (by omega)
    have HF := hide hf
    clear hf
    go_enter Tryz.func12, Tryz.ntmps12
    go_wp2
    go_ret
    exact ⟨ret_bool HF.out.symm, hbz⟩
  have z6 : decide ((f : Int) < 1) = false := decide_eq_false (by omega)
  by_cases h7 : m < f
  · have hf := not_of_iff HT.out (fun h => by have := h.ldr.len; dsimp only at this; omega)
    have z7 : decide ((m : Int) < (f : Int)) = true := decide_eq_true (by omega)
    have HF := hide hf
    clear hf
    go_enter Tryz.func12, Tryz.ntmps12
    go_wp2
    go_ret
    exact ⟨ret_bool HF.out.symm, hbz⟩
  have z7 : decide ((m : Int) < (f : Int)) = false := decide_eq_false (by omega)
  have hm1 : 1 ≤ m := by omega
  have hm24 : m ≤ 24 := by omega
  have hlo : 1 ≤ id := by omega
  have hhi : id ≤ 4611686018427387904 := by omega
  have hf1 : 1 ≤ f := by omega
  obtain ⟨lvs, hlv⟩ : ∃ lvs, lvs = q.map Lf.l := ⟨_, rfl⟩
  rw [← hlv] at HT
  have hll : lvs.length = d := by rw [hlv, List.length_map, hlen2]
  have hat : ∀ k (h1 : k < q.length) (h2 : k < lvs.length), lvs[k] = q[k].l := fun k h1 h2 => by simp [hlv]
  have hne : r ≠ [] := fun e => by rw [e] at hlen3; simp at hlen3; omega
  have HL := hide (And.intro hlen (And.intro hlen2 (And.intro hll hlen3)))
  have HAT := hide (And.intro hat (And.intro hlo (And.intro hhi hne)))
  have HIN := hide (fun y hy => And.intro (i8 y hy) (hs4 y hy))
  have s0 := MmTo.start l
  clear h1 h2 h3 h4 h6 hlen hlen2 hlen3 hll hlv hat hne hlo hhi i8 hs4
  go_enter Tryz.func12, Tryz.ntmps12
  go_wp2
  clear z1 z2 z3 z4 z5 z6 z7 h5 h7
  go_loopw [4] (fun i wr => ∃ j : Nat, j ≤ m ∧ i = .int .i64 j ∧ MmTo l j ∧ VAt wr w.heap.size ⟨id, A, m, c, l, B', d, e, q, C, f, g, r⟩ ∧ Below w.heap.size w wr) (fun i _ => m - (intOf i).toNat)
  case atStart => exact ⟨0, Nat.zero_le _, rfl, s0, v0, hbz⟩
  case round =>
    obtain ⟨j, hj, rfl, hto, vr, hbr⟩ := hrel
    clear s0 v0 hbz
    by_cases hlt : j < m
    · obtain ⟨ad, hl, rfl, hbl, hcc⟩ := (i2.below (hbr.mono hB)).at_ prOk hlt
      have s1 := fun h1 h2 => hto.step hl h1 h2
      have s2 := fun h1 => MmTo.not hl h1
      have s3 := fun k hk he => MmTo.twice (k := k) hk hl he
      obtain ⟨p, hp⟩ : ∃ p, p = l[j] := ⟨_, rfl⟩
      rw [← hp] at hcc s1 s2 s3
      obtain ⟨d0, d1⟩ := pr_at hcc
      obtain ⟨k0, k1, k2, k3⟩ := vr.cells
      dsimp only at k0 k1 k2 k3
      have z1 : (0 : Int) ≤ (j : Int) := by omega
      have z2 : (j : Int) < (m : Int) := by omega
      have cm := rmay_any p wr
      have HP := hide hp
      clear hp hcc hto
      generalize mayP p = v at *
      cases v
      · have hf := not_of_iff HT.out (fun h => s2 rfl h.mem)
        have HF := hide hf
        clear s1 s2 s3 hf
        go_wp2_with fail
        refine cm.mono ?_
        rintro e w1 ⟨rfl, hb1⟩
        have hb2 := hbr.trans (hb1.mono hbr.size)
        go_wp2
        go_ret
        exact ⟨ret_bool HF.out.symm, hb2⟩
      · have s5 := s1 rfl
        clear s1
        have t0 := IdNo.start l p.i
        go_wp2_with fail
        refine cm.mono ?_
        rintro e w1 ⟨rfl, hb1⟩
        have hb2 := hbr.trans (hb1.mono hbr.size)
        have v1 := vr.later hb1
        clear cm s2 hb1 hbr vr k0 k1 k2 k3 d0 d1
        go_wp2
        go_loopw [5] (fun i wi => ∃ k : Nat, k ≤ j ∧ i = .int .i64 k ∧ IdNo l p.i k ∧ VAt wi w.heap.size ⟨id, some ad, m, c, l, B', d, e, q, C, f, g, r⟩ ∧ Below w.heap.size w wi) (fun i _ => j - (intOf i).toNat)
        case atStart => exact ⟨0, Nat.zero_le _, rfl, t0, v1, hb2⟩
        case round =>
          obtain ⟨k, hk, rfl, hno, vi, hbi⟩ := hrel
          clear t0 v1 hb2
          obtain ⟨k0, k1, k2, k3⟩ := vi.cells
          dsimp only at k0 k1 k2 k3
          by_cases hlk : k < j
          · obtain ⟨ad1, hl1, had1, _, hcc⟩ := (i2.below (hbi.mono hB)).at_ prOk hlt
            obtain rfl : ad = ad1 := by injection had1
            obtain ⟨ad2, hl2, had2, _, hcc2⟩ := (i2.below (hbi.mono hB)).at_ prOk (show k < m by omega)
            obtain rfl : ad = ad2 := by injection had2
            rw [← HP.out] at hcc
            have s4 := s3 k hlk
            have t1 := hno.step hl2
            obtain ⟨p2, hp2⟩ : ∃ p, p = l[k] := ⟨_, rfl⟩
            rw [← hp2] at hcc2 s4 t1
            obtain ⟨d0, d1⟩ := pr_at hcc
            obtain ⟨d2, d3⟩ := pr_at hcc2
            have e0 := Later.cellAt d0
            have e1 := Later.cellAt d1
            have e2 := Later.cellAt d2
            have e3 := Later.cellAt d3
            have g0 := Later.cell k0
            have g1 := Later.cell k1
            have g2 := Later.cell k2
            have g3 := Later.cell k3
            have z3 : (0 : Int) ≤ (k : Int) := by omega
            have z4 : (k : Int) < (m : Int) := by omega
            clear hp2 hcc hcc2 d0 d1 d2 d3 had1 had2 k0 k1 k2 k3 hno
            by_cases he : p2.i = p.i
            · have hf := not_of_iff HT.out (fun h => s4 he h.mem)
              have HF := hide hf
              rw [he] at e2
              clear s4 t1 he hf s3 s5
              go_wp2_with fail
              refine wp_region_calm (by kernel_rfl) (by kernel_rfl) ?_
              repeat (go_big_quiet_step (fail))
              refine wpQuiet_nil ?_
              rintro _ ⟨x9, rfl⟩
              have hb9 := x9.below
              generalize x9.w = w9 at hb9 ⊢
              have hb10 := hbi.trans (hb9.mono hbi.size)
              clear e0 e1 e2 e3 g0 g1 g2 g3 hb9
              go_wp2
              go_ret
              exact ⟨ret_bool HF.out.symm, hb10⟩
            · have t2 := t1 he
              have HS := hide t2
              have y3 : ¬ ((p2.i : Int) = (p.i : Int)) := by omega
              clear s4 t1 t2 he
              go_wp2_with fail
              refine wp_region_calm (by kernel_rfl) (by kernel_rfl) ?_
              repeat (go_big_quiet_step (fail))
              refine wpQuiet_nil ?_
              rintro _ ⟨x9, rfl⟩
              have hb9 := x9.below
              generalize x9.w = w9 at hb9 ⊢
              have hb10 := hbi.trans (hb9.mono hbi.size)
              have v10 := vi.later hb9
              clear e0 e1 e2 e3 g0 g1 g2 g3 hb9
              go_wp2
              go_roundw
              case rel => exact ⟨k + 1, by omega, by go_num, HS.out, v10, hb10⟩
              case measure => simp [intOf]; omega
          · obtain rfl : k = j := by omega
            have hst := s5 hno
            have HS := hide hst
            clear s5 s3 hst hno
            go_wp2
            go_roundw
            case rel => exact ⟨k + 1, by omega, by go_num, HS.out, vi, hbi⟩
            case measure => simp [intOf]; omega
    · have hmm := hto.done (by rw [HL.out.1]; omega) (by rw [HL.out.1]; exact hm1) (by rw [HL.out.1]; exact hm24)
      have HM := hide hmm
      have s0 := OnTo.start l lvs
      clear hmm hto
      go_wp2
      clear hlt hm1 hm24
      go_loopw [6] (fun i wr => ∃ j : Nat, j ≤ m ∧ i = .int .i64 j ∧ OnTo l lvs j ∧ VAt wr w.heap.size ⟨id, A, m, c, l, B', d, e, q, C, f, g, r⟩ ∧ Below w.heap.size w wr) (fun i _ => m - (intOf i).toNat)
      case atStart => exact ⟨0, Nat.zero_le _, rfl, s0, vr, hbr⟩
      case round =>
        clear s0 vr hbr
        obtain ⟨j, hj, rfl, hon, vr, hbr⟩ := hrel
        by_cases hlt : j < m
        · have hjl : j < l.length := by rw [HL.out.1]; exact hlt
          have s1 := fun h => hon.step hjl h
          obtain ⟨p, hp⟩ : ∃ p, p = l[j] := ⟨_, rfl⟩
          rw [← hp] at s1
          have HP := hide hp
          have t0 := CtTo.start lvs p
          clear hp hon
          go_wp2
          go_loopw [7, 8] (fun v i wi => ∃ k n : Nat, k ≤ d ∧ i = .int .i64 k ∧ v = .int .i64 n ∧ n ≤ k * 40 ∧ CtTo lvs p k n ∧ VAt wi w.heap.size ⟨id, A, m, c, l, B', d, e, q, C, f, g, r⟩ ∧ Below w.heap.size w wi) (fun _ i _ => d - (intOf i).toNat)
          case atStart => exact ⟨0, 0, Nat.zero_le _, rfl, rfl, Nat.zero_le _, t0, vr, hbr⟩
          case round =>
            clear t0 vr hbr
            obtain ⟨k, n, hk, rfl, rfl, hn40, hct, vi, hbi⟩ := hrel
            obtain ⟨k0, k1, k2, k3⟩ := vi.cells
            dsimp only at k0 k1 k2 k3
            by_cases hlk : k < d
            · have hkl : k < lvs.length := by rw [HL.out.2.2.1]; exact hlk
              have hkq : k < q.length := by rw [HL.out.2.1]; exact hlk
              have hyl := HAT.out.1 k hkq hkl
              obtain ⟨hyin, hy40⟩ := HIN.out q[k] (List.getElem_mem hkq)
              obtain ⟨z, hzq⟩ : ∃ z, z = q[k] := ⟨_, rfl⟩
              rw [← hzq] at hyl hyin hy40
              have u0 := hct.in_ z.l
              have hzl := hyin.es.len
              have HZ := hide (And.intro hzq (And.intro hyl hzl))
              obtain ⟨za, zm, zc, zl⟩ := z
              dsimp only at hyin hy40 u0
              clear hzq hyl hzl hct
              go_wp2
              go_loopw [7, 9] (fun v i wj => ∃ j2 n2 : Nat, j2 ≤ zm ∧ i = .int .i64 j2 ∧ v = .int .i64 n2 ∧ n2 ≤ k * 40 + j2 ∧ CjTo lvs zl p k j2 n2 ∧ VAt wj w.heap.size ⟨id, A, m, c, l, B', d, e, q, C, f, g, r⟩ ∧ Below w.heap.size w wj) (fun _ i _ => zm - (intOf i).toNat)
              case atStart => exact ⟨0, n, Nat.zero_le _, rfl, rfl, by omega, u0, vi, hbi⟩
              case round =>
                clear u0 vi hbi k0 k1 k2 k3
                obtain ⟨j2, n2, hj2, rfl, rfl, hn2, hcj, vj, hbj⟩ := hrel
                obtain ⟨adB, hlB, rfl, _, hcB⟩ := (i5.below (hbj.mono hB)).at_ lfOk hlk
                rw [← HZ.out.1] at hcB
                have b0 := lf_at hcB
                dsimp only at b0
                obtain ⟨k0, k1, k2, k3⟩ := vj.cells
                dsimp only at k0 k1 k2 k3
                have y1 : (0 : Int) ≤ (k : Int) := by omega
                have y2 : (k : Int) < (d : Int) := by omega
                clear hcB
                by_cases hlj : j2 < zm
                · obtain ⟨adz, hlz, rfl, _, hcz⟩ := (hyin.es.below (hbj.mono hB)).at_ prOk hlj
                  obtain ⟨ad, hlm, rfl, _, hcm⟩ := (i2.below (hbj.mono hB)).at_ prOk hlt
                  have s4 := fun h => hcj.yes hlz h
                  have s5 := fun h => hcj.no hlz h
                  rw [← HP.out] at hcm
                  obtain ⟨p2, hp2⟩ : ∃ p, p = zl[j2] := ⟨_, rfl⟩
                  dsimp only at hcz
                  rw [← hp2] at hcz s4 s5
                  obtain ⟨d0, d1⟩ := pr_at hcm
                  obtain ⟨d2, d3⟩ := pr_at hcz
                  have e0 := Later.cellAt d0
                  have e1 := Later.cellAt d1
                  have e2 := Later.cellAt d2
                  have e3 := Later.cellAt d3
                  have e4 := Later.cellAt b0
                  have g0 := Later.cell k0
                  have g1 := Later.cell k1
                  have g2 := Later.cell k2
                  have g3 := Later.cell k3
                  have y3 : (0 : Int) ≤ (j : Int) := by omega
                  have y4 : (j : Int) < (m : Int) := by omega
                  have y5 : (0 : Int) ≤ (j2 : Int) := by omega
                  have y6 : (j2 : Int) < (zm : Int) := by omega
                  clear hp2 hcm hcz d0 d1 d2 d3 hcj
                  by_cases hqi : p2.i = p.i
                  · by_cases hqk : p2.k = p.k
                    · have hst := s4 (Pr.ext hqi hqk)
                      have HS := hide hst
                      rw [hqi] at e2
                      rw [hqk] at e3
                      clear s4 s5 hst hqi hqk
                      go_wp2_with fail
                      refine wp_region_calm (by kernel_rfl) (by kernel_rfl) ?_
                      repeat (go_big_quiet_step (fail))
                      refine wpQuiet_nil ?_
                      rintro _ ⟨x9, rfl⟩
                      have hb9 := x9.below
                      generalize x9.w = w9 at hb9 ⊢
                      have hb10 := hbj.trans (hb9.mono hbj.size)
                      have v10 := vj.later hb9
                      clear e0 e1 e2 e3 e4 g0 g1 g2 g3 hb9
                      go_wp2
                      go_roundw
                      case rel => exact ⟨j2 + 1, n2 + 1, by omega, by go_num, by go_num, by omega, HS.out, v10, hb10⟩
                      case measure => simp [intOf]; omega
                    · have hst := s5 (fun e => hqk (by rw [e]))
                      have HS := hide hst
                      have y3 : ¬ ((p2.k : Int) = (p.k : Int)) := by omega
                      rw [hqi] at e2
                      clear s4 s5 hst hqi hqk
                      go_wp2_with fail
                      refine wp_region_calm (by kernel_rfl) (by kernel_rfl) ?_
                      repeat (go_big_quiet_step (fail))
                      refine wpQuiet_nil ?_
                      rintro _ ⟨x9, rfl⟩
                      have hb9 := x9.below
                      generalize x9.w = w9 at hb9 ⊢
                      have hb10 := hbj.trans (hb9.mono hbj.size)
                      have v10 := vj.later hb9
                      clear e0 e1 e2 e3 e4 g0 g1 g2 g3 hb9
                      go_wp2
                      go_roundw
                      case rel => exact ⟨j2 + 1, n2, by omega, by go_num, rfl, by omega, HS.out, v10, hb10⟩
                      case measure => simp [intOf]; omega
                  · have hst := s5 (fun e => hqi (by rw [e]))
                    have HS := hide hst
                    have y3 : ¬ ((p2.i : Int) = (p.i : Int)) := by omega
                    clear s4 s5 hst hqi
                    go_wp2_with fail
                    refine wp_region_calm (by kernel_rfl) (by kernel_rfl) ?_
                    repeat (go_big_quiet_step (fail))
                    refine wpQuiet_nil ?_
                    rintro _ ⟨x9, rfl⟩
                    have hb9 := x9.below
                    generalize x9.w = w9 at hb9 ⊢
                    have hb10 := hbj.trans (hb9.mono hbj.size)
                    have v10 := vj.later hb9
                    clear e0 e1 e2 e3 e4 g0 g1 g2 g3 hb9
                    go_wp2
                    go_roundw
                    case rel => exact ⟨j2 + 1, n2, by omega, by go_num, rfl, by omega, HS.out, v10, hb10⟩
                    case measure => simp [intOf]; omega
                · have hct := hcj.out_ (by rw [HL.out.2.2.1]; exact hlk) HZ.out.2.1 (by rw [HZ.out.2.2]; omega)
                  have HS := hide hct
                  clear hcj hct
                  go_wp2
                  go_roundw
                  case rel => exact ⟨k + 1, n2, by omega, by go_num, rfl, by omega, HS.out, vj, hbj⟩
                  case measure => simp [intOf]; omega
            · obtain rfl : k = d := by omega
              have hcn := hct.done (by rw [HL.out.2.2.1]; exact Nat.le_refl _)
              have HC := hide hcn
              by_cases hn1 : n = 1
              · have hst := s1 (by rw [← hcn]; exact hn1)
                have HS := hide hst
                have y1 : ((n : Int) != 1) = false := by rw [hn1]; rfl
                clear s1 hst hcn hct hn1
                go_wp2
                go_roundw
                case rel => exact ⟨j + 1, by omega, by go_num, HS.out, vi, hbi⟩
                case measure => simp [intOf]; omega
              · have hf := not_of_iff HT.out (fun h => hn1 (by rw [hcn]; exact h.lvs.once p (by rw [HP.out]; exact List.getElem_mem hjl)))
                have HF := hide hf
                have y1 : ((n : Int) != 1) = true := by simp only [bne_iff_ne, ne_eq]; omega
                clear s1 hcn hct hn1 hf
                go_wp2
                go_ret
                exact ⟨ret_bool HF.out.symm, hbi⟩
        · have honce := hon.done (by rw [HL.out.1]; omega)
          have HO := hide honce
          have t0 := LrTo.start l lvs
          clear hon honce
          go_wp2
          clear hlt
          go_loopw [10, 11] (fun v i wr => ∃ (k : Nat) (A' : Option Addr) (c' : Nat) (fs : List Pr), k ≤ d ∧ i = .int .i64 k ∧ v = .slice A' k c' ∧ LrTo l lvs k ∧ Hid (fs = firstsP (lvs.take k)) ∧ VAt wr w.heap.size ⟨id, A, m, c, l, B', d, e, q, C, f, g, r⟩ ∧ OwnP wr (w.heap.size + 1) (.slice A' k c') k fs ∧ Below w.heap.size w wr) (fun _ i _ => d - (intOf i).toNat)
          case atStart => exact ⟨0, none, 0, [], Nat.zero_le _, rfl, rfl, t0, hide (by simp [firstsP]), vr, OwnE.nil_ _ _, hbr⟩
          case round =>
            clear t0 vr hbr
            obtain ⟨k, A', c', fs, hk, rfl, rfl, hlr, HF, vr, hown, hbr⟩ := hrel
            obtain ⟨k0, k1, k2, k3⟩ := vr.cells
            dsimp only at k0 k1 k2 k3
            by_cases hlk : k < d
            · have hkl : k < lvs.length := by rw [HL.out.2.2.1]; exact hlk
              have hkq : k < q.length := by rw [HL.out.2.1]; exact hlk
              have hyl := HAT.out.1 k hkq hkl
              obtain ⟨hyin, hy40⟩ := HIN.out q[k] (List.getElem_mem hkq)
              have s1 := fun h1 h2 => hlr.step hkl h1 h2
              have s7 := firsts_step hkl
              rw [hyl] at s1 s7
              obtain ⟨adB, hlB, rfl, _, hcB⟩ := (i5.below (hbr.mono hB)).at_ lfOk hlk
              obtain ⟨z, hzq⟩ : ∃ z, z = q[k] := ⟨_, rfl⟩
              rw [← hzq] at hyl hyin hy40 s1 s7 hcB
              have b0 := lf_at hcB
              have hzl := hyin.es.len
              have e4 := Later.cellAt b0
              have g0 := Later.cell k0
              have g1 := Later.cell k1
              have g2 := Later.cell k2
              have g3 := Later.cell k3
              have y1 : (0 : Int) ≤ (k : Int) := by omega
              have y2 : (k : Int) < (d : Int) := by omega
              have hnot1 : z.l = [] → ¬ LeavesP l lvs := fun e h => (h.each lvs[k] (List.getElem_mem hkl)).1 (by rw [hyl]; exact e)
              have hnot2 : ¬ RiseP l z.l → ¬ LeavesP l lvs := fun e h => e (by have := (h.each lvs[k] (List.getElem_mem hkl)).2; rw [hyl] at this; exact this)
              obtain ⟨za, zm, zc, zl⟩ := z
              dsimp only at hyin hy40 s1 s7 b0 hzl e4 hnot1 hnot2
              have hzr := hyin.room
              have hzc := hyin.mc
              have hze := hyin.es
              dsimp only at hzr hzc hze
              have HZ0 := hide hzq.symm
              clear hzq hyl hcB b0 hlr hyin
              by_cases hz0 : zm = 0
              · have hf := not_of_iff HT.out (fun h => hnot1 (List.eq_nil_of_length_eq_zero (by omega)) h.lvs)
                have HFF := hide hf
                subst hz0
                clear hnot1 hnot2 s1 s7 hf hzl
                have kr : True := trivial
                go_wp2_with fail
                refine wp_region_calm (by kernel_rfl) (by kernel_rfl) ?_
                repeat (go_big_quiet_step (first | (go_at_call 42; with_reducible exact kr _)))
                refine wpQuiet_nil ?_
                rintro _ ⟨x9, rfl⟩
                have hb9 := x9.below
                generalize x9.w = w9 at hb9 ⊢
                have hb10 := hbr.trans (hb9.mono hbr.size)
                have v10 := vr.later hb9
                have o10 := hown.later hb9
                clear g0 g1 g2 g3 e4 kr hb9 k0 k1 k2 k3
                go_wp2
                go_ret
                exact ⟨ret_bool HFF.out.symm, hb10⟩
              · obtain ⟨tr, htr⟩ := bool_of (RiseP l zl)
                have kr := fun z : Later wr => calm_of (rrising_any A m c l za zm zc zl B B z.w tr (i2.below ((hbr.trans (z.below.mono hbr.size)).mono hB)) (Nat.le_trans hB (Nat.le_trans hbr.size z.below.size)) (hze.below ((hbr.trans (z.below.mono hbr.size)).mono hB)) (Nat.le_trans hB (Nat.le_trans hbr.size z.below.size)) (Nat.le_trans i3 i4) (Nat.le_trans hzc hzr) htr)
                have y3 : ((zm : Int) == 0) = false := by simp only [beq_eq_false_iff_ne, ne_eq]; omega
                cases tr
                · have hf := not_of_iff HT.out (fun h => hnot2 (fun h' => by have := htr.2 h'; cases this) h.lvs)
                  have HFF := hide hf
                  clear hnot1 hnot2 s1 s7 hf hzl htr hz0
                  go_wp2_with fail
                  refine wp_region_calm (by kernel_rfl) (by kernel_rfl) ?_
                  repeat (go_big_quiet_step (first | (go_at_call 42; with_reducible exact kr _)))
                  refine wpQuiet_nil ?_
                  rintro _ ⟨x9, rfl⟩
                  have hb9 := x9.below
                  generalize x9.w = w9 at hb9 ⊢
                  have hb10 := hbr.trans (hb9.mono hbr.size)
                  have v10 := vr.later hb9
                  have o10 := hown.later hb9
                  clear g0 g1 g2 g3 e4 kr hb9 k0 k1 k2 k3
                  go_wp2
                  go_ret
                  exact ⟨ret_bool HFF.out.symm, hb10⟩
                · have hri := htr.1 rfl
                  have hst := s1 (fun e => by rw [e] at hzl; simp at hzl; omega) hri
                  have HS := hide (And.intro hst s7)
                  clear hnot1 hnot2 s1 s7 hst htr hri
                  go_wp2_with fail
                  refine wp_region_calm (by kernel_rfl) (by kernel_rfl) ?_
                  repeat (go_big_quiet_step (first | (go_at_call 42; with_reducible exact kr _)))
                  refine wpQuiet_nil ?_
                  rintro _ ⟨x9, rfl⟩
                  have hb9 := x9.below
                  generalize x9.w = w9 at hb9 ⊢
                  have hb10 := hbr.trans (hb9.mono hbr.size)
                  have v10 := vr.later hb9
                  have o10 := hown.later hb9
                  clear g0 g1 g2 g3 e4 kr hb9 k0 k1 k2 k3
                  obtain ⟨k0, k1, k2, k3⟩ := v10.cells
                  dsimp only at k0 k1 k2 k3
                  obtain ⟨adB2, _, hadB, _, hcB⟩ := (i5.below (hb10.mono hB)).at_ lfOk hlk
                  obtain rfl : adB = adB2 := by injection hadB
                  have hzq2 : q[k] = ⟨za, zm, zc, zl⟩ := HZ0.out
                  rw [hzq2] at hcB
                  have b0 := lf_at hcB
                  dsimp only at b0
                  obtain ⟨adz, hlz, rfl, _, hcz⟩ := (hze.below (hb10.mono hB)).at_ prOk (show 0 < zm by omega)
                  have hhead := head_at hlz
                  obtain ⟨f0, hf0⟩ : ∃ f0, f0 = zl[0] := ⟨_, rfl⟩
                  rw [← hf0] at hcz hhead
                  obtain ⟨d0, d1⟩ := pr_at hcz
                  rw [add_z] at d0 d1
                  have y4 : (0 : Int) < (zm : Int) := by omega
                  have hlit := es_lit w9 f0 44
                  have HO := hide o10
                  have HP := hide v10
                  have HB := hide hb10
                  have HH := hide hhead
                  have hlt9 := v10.lt
                  obtain ⟨i0, hi, hz0', hz1, hz2⟩ := info_partsV info_pid
                  clear o10 v10 hb10 hhead hf0 hcz hcB hown vr hbr
                  go_wp2_with (at_builtin; refine wp_append_e _ rfl (.tmp 146) (.tmp 154) 23 rfl 44 i0 _ 8 Tryz.underlying23 hi hz0' hz1 hz2 rfl prOk (w.heap.size + 1) k _ fs rfl (HO.out.alloc _) (w9.heap.size + 1) _ 1 1 [f0] rfl hlit (by unfold maxLen; omega) (by omega) w.heap.size w (HB.out.alloc HB.out.size _) (Nat.le_succ _) (by simp; omega) ?_; intro A2 c2 w5 r1 r2 r3 r4; refine Hid.out ?_)
                  have r5 : (w9.alloc (.cells #[.int .u16 f0.i, .int .u32 f0.k] 44)).grownBy w5 (Value.slice A' k c').ownBlock := r4
                  have r6 : OwnP w5 (w.heap.size + 1) (.slice A2 (k + 1) c2) (k + 1) (fs ++ [f0]) := r1
                  have r7 : VAt w5 w.heap.size ⟨id, A, m, c, l, some adB, d, e, q, C, f, g, r⟩ := by
                    have h7 := HP.out.alloc (.cells #[.int .u16 f0.i, .int .u32 f0.k] 44)
                    exact (r5.block w.heap.size h7.lt (fun e => by have := HO.out.lt _ e.symm; omega)).trans h7
                  have r9 : fs ++ [f0] = firstsP (lvs.take (k + 1)) := by rw [HS.out.2, ← HF.out, HH.out]
                  have HR := hide (And.intro HS.out.1 (And.intro r9 (And.intro r7 (And.intro r6 r2))))
                  refine Lib.hid ?_
                  clear r1 r2 r3 r4 r5 r6 r7 r9 HO HP HB HH HS d0 d1 k0 k1 k2 k3 b0 hlit hlt9
                  go_wp2_with fail
                  go_roundw
                  case rel => exact ⟨k + 1, A2, c2, fs ++ [f0], by omega, by go_num, rfl, HR.out.1, hide HR.out.2.1, HR.out.2.2.1, HR.out.2.2.2.1, HR.out.2.2.2.2⟩
                  case measure => simp [intOf]; omega
            · obtain rfl : k = d := by omega
              have heach := hlr.done (by rw [HL.out.2.2.1]; exact Nat.le_refl _)
              have hfs : fs = firstsP lvs := by rw [HF.out, List.take_of_length_le (by rw [HL.out.2.2.1]; exact Nat.le_refl _)]
              obtain ⟨t1, ht1⟩ := bool_of (RiseP l fs)
              obtain ⟨t2, ht2⟩ := bool_of (RiseP l r)
              have hes := hown.es prOk
              have c1 := rrising_any A m c l A' k c' fs B wr.heap.size wr t1 (i2.below (hbr.mono hB)) (Nat.le_trans hB hbr.size) hes (Nat.le_refl _) (Nat.le_trans i3 i4) (by unfold maxLen; omega) ht1
              have hfin : t = (t1 && t2) := by
                rw [Bool.eq_iff_iff, Bool.and_eq_true, ht1, ht2, HT.out]
                constructor
                · intro h
                  exact ⟨by rw [hfs]; exact h.lvs.firsts, h.ldr⟩
                · rintro ⟨h1, h2⟩
                  rw [hfs] at h1
                  exact ⟨HAT.out.2.1, HAT.out.2.2.1, HM.out, ⟨heach, HO.out, h1⟩, HAT.out.2.2.2, h2⟩
              have HFIN := hide hfin
              clear heach hfs ht1 hes hfin hlr hown
              cases t1
              · go_wp2_with fail
                refine c1.mono ?_
                rintro e w1 ⟨rfl, hb1⟩
                have hb2 := hbr.trans (hb1.mono hbr.size)
                go_wp2
                go_ret
                exact ⟨ret_bool HFIN.out.symm, hb2⟩
              · go_wp2_with fail
                refine c1.mono ?_
                rintro e w1 ⟨rfl, hb1⟩
                have hb2 := hbr.trans (hb1.mono hbr.size)
                have v1 := vr.later hb1
                obtain ⟨k0, k1, k2, k3⟩ := v1.cells
                dsimp only at k0 k1 k2 k3
                have c2 := rrising_any A m c l C f g r B B w1 t2 (i2.below (hb2.mono hB)) (Nat.le_trans hB hb2.size) (i9.below (hb2.mono hB)) (Nat.le_trans hB hb2.size) (Nat.le_trans i3 i4) (Nat.le_trans i10 i11) ht2
                clear ht2 hb1 vr c1
                go_wp2_with fail
                refine c2.mono ?_
                rintro e w2 ⟨rfl, hb1⟩
                have hb3 := hb2.trans (hb1.mono hb2.size)
                go_wp2
                go_ret
                exact ⟨ret_bool HFIN.out.symm, hb3⟩
end Go.Proofs.YtjmkecaljkcoiaaGreatDoor
