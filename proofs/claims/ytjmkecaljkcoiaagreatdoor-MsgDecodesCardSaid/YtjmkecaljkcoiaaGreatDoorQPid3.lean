import Derived.Deep.RegionHeld3
import Derived.Test.YtjmkecaljkcoiaaGreatDoorQMaskM
import Derived.Test.YtjmkecaljkcoiaaGreatDoorQPut1
import Derived.Test.YtjmkecaljkcoiaaGreatDoorQShort1
import Derived.Test.YtjmkecaljkcoiaaGreatDoorQFlow
namespace Go.Proofs.YtjmkecaljkcoiaaGreatDoor
open Go.RowKit
set_option linter.unusedVariables false
set_option linter.unusedSimpArgs false
theorem getR_bds : ∀ (l : List UInt8) (i acc : Nat), i ≤ 9 → acc < 2 ^ (7 * i) → (getR i acc l).1 < 18446744073709551616 ∧ (getR i acc l).2.1 ≤ i + l.length ∧ (getR i acc l).2.1 ≤ 10 ∧ (getR i acc l).2.2 ≤ 5
  | [], i, acc, _, _ => by rw [getR]; exact ⟨by decide, Nat.zero_le _, by decide, by decide⟩
  | x :: t, i, acc, hi, ha => by
    have hx := x.toNat_lt
    rw [getR]
    by_cases h9 : i = 9 ∧ 1 < x.toNat
    · rw [if_pos h9]; exact ⟨by decide, Nat.zero_le _, by decide, by decide⟩
    · rw [if_neg h9]
      have e : 2 ^ (7 * (i + 1)) = 128 * 2 ^ (7 * i) := by rw [show (128 : Nat) = 2 ^ 7 from rfl, ← Nat.pow_add]; congr 1; omega
      have h3 : x.toNat % 128 * 2 ^ (7 * i) ≤ 127 * 2 ^ (7 * i) := Nat.mul_le_mul_right _ (by omega)
      by_cases h1 : 128 ≤ x.toNat
      · rw [if_pos h1]
        have := getR_bds t (i + 1) (acc + x.toNat % 128 * 2 ^ (7 * i)) (by omega) (by rw [e]; omega)
        rw [List.length_cons]
        omega
      · rw [if_neg h1]
        by_cases h0 : x.toNat = 0 ∧ 0 < i
        · rw [if_pos h0]; exact ⟨by decide, Nat.zero_le _, by decide, by decide⟩
        · rw [if_neg h0, List.length_cons]
          refine ⟨?_, by show i + 1 ≤ i + (t.length + 1); omega, by show i + 1 ≤ 10; omega, Nat.zero_le _⟩
          show acc + x.toNat % 128 * 2 ^ (7 * i) < _
          by_cases hn : i = 9
          · subst hn
            have h5 : x.toNat % 128 * 2 ^ (7 * 9) ≤ 1 * 2 ^ (7 * 9) := Nat.mul_le_mul_right _ (by omega)
            have e1 : (2 : Nat) ^ (7 * 9) = 9223372036854775808 := by decide
            rw [e1] at h5 ha ⊢
            omega
          · have h4 : 2 ^ (7 * (i + 1)) ≤ 2 ^ 63 := Nat.pow_le_pow_right (by decide) (by omega)
            have e2 : (2 : Nat) ^ 63 = 9223372036854775808 := by decide
            rw [e, e2] at h4
            omega
theorem getF_bds (l : List UInt8) : (getF l).1 < 18446744073709551616 ∧ (getF l).2.1 ≤ l.length ∧ (getF l).2.1 ≤ 10 ∧ (getF l).2.2 ≤ 5 := by
  have := getR_bds l 0 0 (by decide) (by decide)
  simpa [getF] using this
def pidL (i k : Nat) : List UInt8 := shortL i ++ shortL k
def pidG (l : List UInt8) : Nat × Nat × Nat × Nat :=
  if (getF l).2.2 = 0 then
    if (getF (l.drop (getF l).2.1)).2.2 = 0 then
      if (getF l).1 < 65536 ∧ (getF (l.drop (getF l).2.1)).1 < 4294967296 then ((getF l).1, (getF (l.drop (getF l).2.1)).1, (getF l).2.1 + (getF (l.drop (getF l).2.1)).2.1, 0)
      else (0, 0, 0, 5)
    else (0, 0, 0, (getF (l.drop (getF l).2.1)).2.2)
  else (0, 0, 0, (getF l).2.2)
def MakesB (w : World) (L : List UInt8) (e : Ending) (w' : World) : Prop :=
  ∃ A c, e = .returned (.slice A L.length c) ∧ OwnB w' w.heap.size (.slice A L.length c) L.length L ∧ Below w.heap.size w w'
def OwnW (B n : Nat) (L : List UInt8) : Word := fun v w => OwnB w B v n L
theorem OwnW.steady (B n : Nat) (L : List UInt8) : Steady (OwnW B n L) := fun _ _ _ h hb => OwnB.later h hb
theorem putShort_word (A : Option Addr) (n c : Nat) (l : List UInt8) (B0 x m B : Nat) (w : World) (hA : Bs w B0 A n l) (hB0 : B0 ≤ w.heap.size) (hn : n ≤ 70368744177664) (hx : x < 18446744073709551616) (hB : B ≤ w.heap.size) (hm : m = n + (shortL x).length) :
    Calls Tryz.prog 198 #[.slice A n c, .int .u64 x] w fun e w' => ∃ v, e = .returned v ∧ Below w.heap.size w w' ∧ OwnW B m (l ++ shortL x) v w' :=
  (putShort_any A n c l B0 x w hA hB0 hn hx).mono fun _ _ ⟨he, ho, hb, _⟩ => ⟨_, he, hb, by subst hm; exact ho.mono hB⟩
set_option maxRecDepth 100000 in
theorem ppid_any (A : Option Addr) (n c : Nat) (l : List UInt8) (B i k : Nat) (w : World) (hA : Bs w B A n l) (hB : B ≤ w.heap.size) (hn : n ≤ 1000000) (hi : i < 65536) (hk : k < 4294967296) :
    Calls Tryz.prog 199 #[.slice A n c, .agg #[.int .u16 i, .int .u32 k]] w (MakesB w (l ++ pidL i k)) := by
  have hlen := hA.len
  have HL := hide hlen
  clear hlen
  obtain ⟨li, hli⟩ : ∃ m, m = (shortL i).length := ⟨_, rfl⟩
  obtain ⟨lk, hlk⟩ : ∃ m, m = (shortL k).length := ⟨_, rfl⟩
  have hi10 := (shortL_len i).2
  have hk10 := (shortL_len k).2
  rw [← hli] at hi10
  rw [← hlk] at hk10
  have HI := hide hli
  have HK := hide hlk
  clear hli hlk
  go_enter Tryz.func199, Tryz.ntmps199
  go_wp2
  have f0 : (w.alloc (.cells #[.int .u16 i, .int .u32 k] 44)).cell? ⟨w.heap.size, 0, none⟩ = some (.int .u16 i) := by go_simp
  have f1 : (w.alloc (.cells #[.int .u16 i, .int .u32 k] 44)).cell? ⟨w.heap.size, 1, none⟩ = some (.int .u32 k) := by go_simp
  have hb : Below w.heap.size w (w.alloc (.cells #[.int .u16 i, .int .u32 k] 44)) := ((Below.refl _ _).alloc (Nat.le_refl _) _)
  have hA1 := hA.below (hb.mono hB)
  generalize (w.alloc (.cells #[.int .u16 i, .int .u32 k] 44)) = w1 at f0 f1 hb hA1 ⊢
  have hs1 := hb.size
  have g0 : ∀ v : World, Below w1.heap.size w1 v → v.cell? ⟨w.heap.size, 0, none⟩ = some (.int .u16 i) := fun v h => (h.cell (World.block_lt_of_cell? _ _ f0)).trans f0
  have g1 : ∀ v : World, Below w1.heap.size w1 v → v.cell? ⟨w.heap.size, 1, none⟩ = some (.int .u32 k) := fun v h => (h.cell (World.block_lt_of_cell? _ _ f1)).trans f1
  clear f0 f1
  have wi : IntKind.u64.wrap (i : Int) = (i : Int) := by rw [IntKind.wrap_u64]; omega
  have wk : IntKind.u64.wrap (k : Int) = (k : Int) := by rw [IntKind.wrap_u64]; omega
  refine wp_region_flow (by kernel_rfl) (by kernel_rfl) (by kernel_rfl) ?_
  iterate 2
    refine flow_val rfl ?_
    apply Exists.intro
    apply And.intro
    · intro ρ w2 hr hf
      have r1 := hr.const
      have r2 := hr.func
      try simp [Oper.looksAt, Op.operands, Call.operands, tput, frameW, Act.eval] at hf
      go_simp
      try rfl
  refine flow_pure (.int .u16 i) rfl ?_ ?_
  · intro ρ w2 hr hw hf
    have g2 := g0 w2 hw
    simp [Oper.looksAt, Op.operands, Call.operands, tput, frameW, Act.eval] at hf
    go_simp
  refine flow_val rfl ?_
  apply Exists.intro
  apply And.intro
  · intro ρ w2 hr hf
    simp [Oper.looksAt, Op.operands, Call.operands, tput, frameW, Act.eval] at hf
    go_simp
    try rfl
  refine flow_step (OwnW w.heap.size (n + li) (l ++ shortL i)) rfl (OwnW.steady _ _ _) ?_ ?_
  · intro ρ w2 hr hw hf
    have r2 := hr.func
    simp [Oper.looksAt, Op.operands, Call.operands, tput, frameW, Act.eval] at hf
    have H9 := hide (putShort_word A n c l B i (n + li) w.heap.size w2 (hA1.below (hw.mono (by omega))) (by have := hw.size; omega) (by omega) (by omega) (by have := hw.size; omega) (by rw [HI.out]))
    go_simp
    exact ⟨Below.refl _ _, unhide H9⟩
  refine flow_val rfl ?_
  apply Exists.intro
  apply And.intro
  · intro ρ w2 hr hf
    simp [Oper.looksAt, Op.operands, Call.operands, tput, frameW, Act.eval] at hf
    go_simp
    try rfl
  refine flow_pure (.int .u32 k) rfl ?_ ?_
  · intro ρ w2 hr hw hf
    have g2 := g1 w2 hw
    simp [Oper.looksAt, Op.operands, Call.operands, tput, frameW, Act.eval] at hf
    go_simp
  refine flow_val rfl ?_
  apply Exists.intro
  apply And.intro
  · intro ρ w2 hr hf
    simp [Oper.looksAt, Op.operands, Call.operands, tput, frameW, Act.eval] at hf
    go_simp
    try rfl
  refine flow_step (OwnW w.heap.size (n + li + lk) (l ++ pidL i k)) rfl (OwnW.steady _ _ _) ?_ ?_
  · intro ρ w2 hr hw hf
    have r2 := hr.func
    simp [Oper.looksAt, Op.operands, Call.operands, tput, frameW, Act.eval] at hf
    generalize hu : ρ (.tmp 9) = u9 at hf
    obtain ⟨h9, h12⟩ := hf
    obtain ⟨A9, c9, rfl⟩ := OwnB.shape h9
    have h8 := putShort_word A9 (n + li) c9 (l ++ shortL i) _ k (n + li + lk) w.heap.size w2 h9.bs (Nat.le_refl _) (by omega) (by omega) (by have := hw.size; omega) (by rw [HK.out])
    rw [List.append_assoc] at h8
    have H9 := hide h8
    clear h8
    clear h9
    go_simp
    exact ⟨Below.refl _ _, unhide H9⟩
  refine flow_step (OwnW w.heap.size (n + li + lk) (l ++ pidL i k)) rfl (OwnW.steady _ _ _) ?_ ?_
  · intro ρ w2 hr hw hf
    simp [Oper.looksAt, Op.operands, Call.operands, tput, frameW, Act.eval] at hf
    generalize hu : ρ (.tmp 13) = u9 at hf
    have HF := hide hf
    clear hf
    go_simp
    exact ⟨Below.refl _ _, unhide HF⟩
  refine flow_nil ?_
  intro f w2 hw hf
  have h4 := hf 4
  simp [tput, frameW, Act.eval] at h4
  rw [show frameOf f _ _ = ⟨#[f 0, f 1, f 2, f 3, f 4, f 5, f 6, f 7, f 8, f 9, f 10, f 11, f 12, f 13], []⟩ from rfl]
  clear hf
  obtain ⟨A9, c9, h9⟩ := OwnB.shape h4
  rw [h9] at h4 ⊢
  have HB := hide (hb.trans (hw.mono hs1))
  have HO := hide h4
  clear h9 h4 hw hb
  have e1 : n + li + lk = (l ++ pidL i k).length := by rw [pidL, List.length_append, List.length_append, HL.out, HI.out, HK.out, Nat.add_assoc]
  have hm : MakesB w (l ++ pidL i k) (.returned (.slice A9 (n + li + lk) c9)) w2 := ⟨A9, c9, by rw [e1], e1 ▸ HO.out, HB.out⟩
  have HM := Lib.hid hm
  clear HO HB e1 hm
  go_wp2
  go_ret
  exact HM.out
theorem narrow2_yes (r : Nat) (w : World) (h : r < 65536) : Calls Tryz.prog 205 #[.int .u64 r, .int .i64 2] w fun e w' => e = .returned (.tuple #[.int .u64 r, .bool true]) ∧ w = w' :=
  (narrow_any r 2 w (by omega) (by decide)).mono fun e w' ⟨he, hw⟩ => ⟨by
    have e1 : narrowF r 2 = r := Nat.mod_eq_of_lt h
    rw [he, e1]; simp, hw⟩
theorem narrow2_no (r : Nat) (w : World) (h : 65536 ≤ r) (h' : r < 18446744073709551616) : Calls Tryz.prog 205 #[.int .u64 r, .int .i64 2] w fun e w' => e = .returned (.tuple #[.int .u64 (narrowF r 2 : Nat), .bool false]) ∧ w = w' :=
  (narrow_any r 2 w h' (by decide)).mono fun e w' ⟨he, hw⟩ => ⟨by
    have e1 : narrowF r 2 < 65536 := Nat.mod_lt _ (by decide)
    have e2 : ((narrowF r 2 : Int) == (r : Int)) = false := by rw [beq_eq_false_iff_ne]; omega
    rw [he, e2], hw⟩
theorem narrow4_yes (r : Nat) (w : World) (h : r < 4294967296) : Calls Tryz.prog 205 #[.int .u64 r, .int .i64 4] w fun e w' => e = .returned (.tuple #[.int .u64 r, .bool true]) ∧ w = w' :=
  (narrow_any r 4 w (by omega) (by decide)).mono fun e w' ⟨he, hw⟩ => ⟨by
    have e1 : narrowF r 4 = r := Nat.mod_eq_of_lt h
    rw [he, e1]; simp, hw⟩
theorem narrow4_no (r : Nat) (w : World) (h : 4294967296 ≤ r) (h' : r < 18446744073709551616) : Calls Tryz.prog 205 #[.int .u64 r, .int .i64 4] w fun e w' => e = .returned (.tuple #[.int .u64 (narrowF r 4 : Nat), .bool false]) ∧ w = w' :=
  (narrow_any r 4 w h' (by decide)).mono fun e w' ⟨he, hw⟩ => ⟨by
    have e1 : narrowF r 4 < 4294967296 := Nat.mod_lt _ (by decide)
    have e2 : ((narrowF r 4 : Int) == (r : Int)) = false := by rw [beq_eq_false_iff_ne]; omega
    rw [he, e2], hw⟩
theorem narrow4_some (r : Nat) (w : World) (h' : r < 18446744073709551616) : Calls Tryz.prog 205 #[.int .u64 r, .int .i64 4] w fun e w' => ∃ (q : Nat) (b : Bool), e = .returned (.tuple #[.int .u64 q, .bool b]) ∧ w = w' :=
  (narrow_any r 4 w h' (by decide)).mono fun e w' ⟨he, hw⟩ => ⟨_, _, he, hw⟩
theorem pidG_1 {l : List UInt8} (h1 : (getF l).2.2 ≠ 0) : pidG l = (0, 0, 0, (getF l).2.2) := by rw [pidG, if_neg h1]
theorem pidG_2 {l : List UInt8} (h1 : (getF l).2.2 = 0) (h2 : (getF (l.drop (getF l).2.1)).2.2 ≠ 0) : pidG l = (0, 0, 0, (getF (l.drop (getF l).2.1)).2.2) := by rw [pidG, if_pos h1, if_neg h2]
theorem pidG_3 {l : List UInt8} (h1 : (getF l).2.2 = 0) (h2 : (getF (l.drop (getF l).2.1)).2.2 = 0) (h3 : ¬ ((getF l).1 < 65536 ∧ (getF (l.drop (getF l).2.1)).1 < 4294967296)) : pidG l = (0, 0, 0, 5) := by
  rw [pidG, if_pos h1, if_pos h2, if_neg h3]
theorem pidG_4 {l : List UInt8} (h1 : (getF l).2.2 = 0) (h2 : (getF (l.drop (getF l).2.1)).2.2 = 0) (h3 : (getF l).1 < 65536 ∧ (getF (l.drop (getF l).2.1)).1 < 4294967296) :
    pidG l = ((getF l).1, (getF (l.drop (getF l).2.1)).1, (getF l).2.1 + (getF (l.drop (getF l).2.1)).2.1, 0) := by
  rw [pidG, if_pos h1, if_pos h2, if_pos h3]
theorem getF_none : getF [] = (0, 0, 2) := rfl
def GetsP (w : World) (q : Nat × Nat × Nat × Nat) (e : Ending) (w' : World) : Prop :=
  e = .returned (.tuple #[.agg #[.int .u16 q.1, .int .u32 q.2.1], .int .i64 q.2.2.1, .int .i64 q.2.2.2]) ∧ Below w.heap.size w w'
set_option maxRecDepth 100000 in
theorem gpid_any (A : Option Addr) (n c : Nat) (l : List UInt8) (B : Nat) (w : World) (hA : Bs w B A n l) (hB : B ≤ w.heap.size) (hn : n ≤ c) (hc : c ≤ maxLen) :
    Calls Tryz.prog 164 #[.slice A n c] w (GetsP w (pidG l)) := by
  have hlen := hA.len
  have hbd := getF_bds l
  have hbd2 := getF_bds (l.drop (getF l).2.1)
  have q1 := @pidG_1 l
  have q2 := @pidG_2 l
  have q3 := @pidG_3 l
  have q4 := @pidG_4 l
  have c1 := fun W (h : Bs W B A n l) => getShort_any A n c l B W h (Nat.le_trans hn hc)
  obtain ⟨r, s, t, hr⟩ : ∃ r s t, getF l = (r, s, t) := ⟨_, _, _, rfl⟩
  rw [hr] at hbd hbd2 q1 q2 q3 q4 c1
  simp only at hbd hbd2 q1 q2 q3 q4 c1
  obtain ⟨hr1, hs1, hs10, ht5⟩ := hbd
  rw [hlen] at hs1
  have c2 := fun W (h : Bs W B (A.map (·.add s)) (n - s) (l.drop s)) => getShort_any _ (n - s) (c - s) (l.drop s) B W h (by omega)
  have c3 := fun W (h : Bs W B A 0 []) => getShort_any A 0 0 [] B W h (by omega)
  rw [getF_none] at c3
  simp only at c3
  have hz : n = s → getF (l.drop s) = (0, 0, 2) := fun h => by
    rw [List.drop_eq_nil_of_le (by omega), getF_none]
  obtain ⟨r', s', t', hr'⟩ : ∃ r' s' t', getF (l.drop s) = (r', s', t') := ⟨_, _, _, rfl⟩
  rw [hr'] at hbd2 q2 q3 q4 c2 hz
  simp only at hbd2 q2 q3 q4 c2
  obtain ⟨hr1', hs1', hs10', ht5'⟩ := hbd2
  clear hr hr' hs1'
  unfold maxLen at hc
  have hA1 := hA.alloc hB (.cells #[.int .u16 0, .int .u32 0] 44)
  have hbz : Below w.heap.size w (w.alloc (.cells #[.int .u16 0, .int .u32 0] 44)) := (Below.refl _ _).alloc (Nat.le_refl _) _
  by_cases ht : t = 0
  · subst ht
    by_cases hcs : c = s
    · obtain rfl : n = s := by omega
      subst hcs
      have e2 := hz rfl
      simp only [Prod.mk.injEq] at e2
      obtain ⟨rfl, rfl, rfl⟩ := e2
      rw [q2 rfl (by decide)]
      have hA0 : Bs (w.alloc (.cells #[.int .u16 0, .int .u32 0] 44)) B A 0 [] := ⟨rfl, fun h => absurd h (by omega)⟩
      clear c2 q1 q2 q3 q4 hz hlen
      go_enter Tryz.func164, Tryz.ntmps164
      go_wp2_with fail
      refine (c1 _ hA1).mono ?_
      rintro e w' ⟨rfl, rfl⟩
      clear c1
      go_wp2_with fail
      refine (c3 _ hA0).mono ?_
      rintro e w' ⟨rfl, rfl⟩
      clear c3
      go_wp2
      exact bodyPost_ret (v := .tuple #[.agg #[.int .u16 0, .int .u32 0], .int .i64 0, .int .i64 2]) (by simp [results, Tryz.results164, go_sem]) rfl ⟨rfl, by first | exact hbz | exact (Below.refl _ _).alloc (Nat.le_refl _) _⟩
    · have hcut : Bs (w.alloc (.cells #[.int .u16 0, .int .u32 0] 44)) B (A.map (·.add s)) (n - s) (l.drop s) := by
        have h := hA1.cut hs1 hn
        rwa [if_neg hcs] at h
      have hlt : s < c := by omega
      clear hz c3
      by_cases ht' : t' = 0
      · subst ht'
        by_cases hb1 : r < 65536
        · by_cases hb2 : r' < 4294967296
          · rw [q4 rfl rfl ⟨hb1, hb2⟩]
            have w1 : IntKind.u16.wrap (r : Int) = (r : Int) := by rw [IntKind.wrap_u16]; omega
            have w2 : IntKind.u32.wrap (r' : Int) = (r' : Int) := by rw [IntKind.wrap_u32]; omega
            clear q1 q2 q3 q4 hlen
            go_enter Tryz.func164, Tryz.ntmps164
            go_wp2_with fail
            refine (c1 _ hA1).mono ?_
            rintro e w' ⟨rfl, rfl⟩
            clear c1
            go_wp2_with fail
            refine (c2 _ hcut).mono ?_
            rintro e w' ⟨rfl, rfl⟩
            clear c2
            go_wp2_with fail
            refine (narrow2_yes r _ hb1).mono ?_
            rintro e w' ⟨rfl, rfl⟩
            go_wp2_with fail
            refine (narrow4_yes r' _ hb2).mono ?_
            rintro e w' ⟨rfl, rfl⟩
            go_wp2
            exact bodyPost_ret (v := .tuple #[.agg #[.int .u16 r, .int .u32 r'], .int .i64 ((s : Int) + (s' : Int)), .int .i64 0]) (by simp [results, Tryz.results164, go_sem]) rfl ⟨rfl, by first | exact hbz | exact (Below.refl _ _).alloc (Nat.le_refl _) _⟩
          · rw [q3 rfl rfl (fun h => hb2 h.2)]
            have hb2' : 4294967296 ≤ r' := by omega
            clear q1 q2 q3 q4 hlen hb2
            go_enter Tryz.func164, Tryz.ntmps164
            go_wp2_with fail
            refine (c1 _ hA1).mono ?_
            rintro e w' ⟨rfl, rfl⟩
            clear c1
            go_wp2_with fail
            refine (c2 _ hcut).mono ?_
            rintro e w' ⟨rfl, rfl⟩
            clear c2
            go_wp2_with fail
            refine (narrow2_yes r _ hb1).mono ?_
            rintro e w' ⟨rfl, rfl⟩
            go_wp2_with fail
            refine (narrow4_no r' _ hb2' hr1').mono ?_
            rintro e w' ⟨rfl, rfl⟩
            go_wp2
            exact bodyPost_ret (v := .tuple #[.agg #[.int .u16 0, .int .u32 0], .int .i64 0, .int .i64 5]) (by simp [results, Tryz.results164, go_sem]) rfl ⟨rfl, by first | exact hbz | exact (Below.refl _ _).alloc (Nat.le_refl _) _⟩
        · rw [q3 rfl rfl (fun h => hb1 h.1)]
          have hb1' : 65536 ≤ r := by omega
          clear q1 q2 q3 q4 hlen hb1
          go_enter Tryz.func164, Tryz.ntmps164
          go_wp2_with fail
          refine (c1 _ hA1).mono ?_
          rintro e w' ⟨rfl, rfl⟩
          clear c1
          go_wp2_with fail
          refine (c2 _ hcut).mono ?_
          rintro e w' ⟨rfl, rfl⟩
          clear c2
          go_wp2_with fail
          refine (narrow2_no r _ hb1' hr1).mono ?_
          rintro e w' ⟨rfl, rfl⟩
          go_wp2_with fail
          refine (narrow4_some r' _ hr1').mono ?_
          rintro e w' ⟨q, b, rfl, rfl⟩
          go_wp2
          exact bodyPost_ret (v := .tuple #[.agg #[.int .u16 0, .int .u32 0], .int .i64 0, .int .i64 5]) (by simp [results, Tryz.results164, go_sem]) rfl ⟨rfl, by first | exact hbz | exact (Below.refl _ _).alloc (Nat.le_refl _) _⟩
      · rw [q2 rfl ht']
        have t1 : ((t' : Int) != 0) = true := by simp; omega
        clear q1 q2 q3 q4 hlen
        go_enter Tryz.func164, Tryz.ntmps164
        go_wp2_with fail
        refine (c1 _ hA1).mono ?_
        rintro e w' ⟨rfl, rfl⟩
        clear c1
        go_wp2_with fail
        refine (c2 _ hcut).mono ?_
        rintro e w' ⟨rfl, rfl⟩
        clear c2
        go_wp2
        exact bodyPost_ret (v := .tuple #[.agg #[.int .u16 0, .int .u32 0], .int .i64 0, .int .i64 t']) (by simp [results, Tryz.results164, go_sem]) rfl ⟨rfl, by first | exact hbz | exact (Below.refl _ _).alloc (Nat.le_refl _) _⟩
  · rw [q1 ht]
    have t1 : ((t : Int) != 0) = true := by simp; omega
    clear c2 c3 q1 q2 q3 q4 hlen hz
    go_enter Tryz.func164, Tryz.ntmps164
    go_wp2_with fail
    refine (c1 _ hA1).mono ?_
    rintro e w' ⟨rfl, rfl⟩
    clear c1
    go_wp2
    exact bodyPost_ret (v := .tuple #[.agg #[.int .u16 0, .int .u32 0], .int .i64 0, .int .i64 t]) (by simp [results, Tryz.results164, go_sem]) rfl ⟨rfl, by first | exact hbz | exact (Below.refl _ _).alloc (Nat.le_refl _) _⟩
set_option maxRecDepth 100000 in
theorem rgpid_any (A : Option Addr) (n c : Nat) (l : List UInt8) (B : Nat) (w : World) (hA : Bs w B A n l) (hB : B ≤ w.heap.size) (hn : n ≤ c) (hc : c ≤ maxLen) :
    Calls Tryz.prog 115 #[.slice A n c] w (GetsP w (pidG l)) := by
  have hlen := hA.len
  have hbd := getF_bds l
  have hbd2 := getF_bds (l.drop (getF l).2.1)
  have q1 := @pidG_1 l
  have q2 := @pidG_2 l
  have q3 := @pidG_3 l
  have q4 := @pidG_4 l
  have c1 := fun W (h : Bs W B A n l) => rgetShort_any A n c l B W h (Nat.le_trans hn hc)
  obtain ⟨r, s, t, hr⟩ : ∃ r s t, getF l = (r, s, t) := ⟨_, _, _, rfl⟩
  rw [hr] at hbd hbd2 q1 q2 q3 q4 c1
  simp only at hbd hbd2 q1 q2 q3 q4 c1
  obtain ⟨hr1, hs1, hs10, ht5⟩ := hbd
  rw [hlen] at hs1
  have c2 := fun W (h : Bs W B (A.map (·.add s)) (n - s) (l.drop s)) => rgetShort_any _ (n - s) (c - s) (l.drop s) B W h (by omega)
  have c3 := fun W (h : Bs W B A 0 []) => rgetShort_any A 0 0 [] B W h (by omega)
  rw [getF_none] at c3
  simp only at c3
  have hz : n = s → getF (l.drop s) = (0, 0, 2) := fun h => by
    rw [List.drop_eq_nil_of_le (by omega), getF_none]
  obtain ⟨r', s', t', hr'⟩ : ∃ r' s' t', getF (l.drop s) = (r', s', t') := ⟨_, _, _, rfl⟩
  rw [hr'] at hbd2 q2 q3 q4 c2 hz
  simp only at hbd2 q2 q3 q4 c2
  obtain ⟨hr1', hs1', hs10', ht5'⟩ := hbd2
  clear hr hr' hs1'
  unfold maxLen at hc
  have hA1 := hA.alloc hB (.cells #[.int .u16 0, .int .u32 0] 44)
  have hbz : Below w.heap.size w (w.alloc (.cells #[.int .u16 0, .int .u32 0] 44)) := (Below.refl _ _).alloc (Nat.le_refl _) _
  by_cases ht : t = 0
  · subst ht
    by_cases hcs : c = s
    · obtain rfl : n = s := by omega
      subst hcs
      have e2 := hz rfl
      simp only [Prod.mk.injEq] at e2
      obtain ⟨rfl, rfl, rfl⟩ := e2
      rw [q2 rfl (by decide)]
      have hA0 : Bs (w.alloc (.cells #[.int .u16 0, .int .u32 0] 44)) B A 0 [] := ⟨rfl, fun h => absurd h (by omega)⟩
      clear c2 q1 q2 q3 q4 hz hlen
      go_enter Tryz.func115, Tryz.ntmps115
      go_wp2_with fail
      refine (c1 _ hA1).mono ?_
      rintro e w' ⟨rfl, rfl⟩
      clear c1
      go_wp2_with fail
      refine (c3 _ hA0).mono ?_
      rintro e w' ⟨rfl, rfl⟩
      clear c3
      go_wp2
      exact bodyPost_ret (v := .tuple #[.agg #[.int .u16 0, .int .u32 0], .int .i64 0, .int .i64 2]) (by simp [results, Tryz.results115, go_sem]) rfl ⟨rfl, by first | exact hbz | exact (Below.refl _ _).alloc (Nat.le_refl _) _⟩
    · have hcut : Bs (w.alloc (.cells #[.int .u16 0, .int .u32 0] 44)) B (A.map (·.add s)) (n - s) (l.drop s) := by
        have h := hA1.cut hs1 hn
        rwa [if_neg hcs] at h
      have hlt : s < c := by omega
      clear hz c3
      by_cases ht' : t' = 0
      · subst ht'
        by_cases hb1 : r < 65536
        · by_cases hb2 : r' < 4294967296
          · rw [q4 rfl rfl ⟨hb1, hb2⟩]
            have w1 : IntKind.u16.wrap (r : Int) = (r : Int) := by rw [IntKind.wrap_u16]; omega
            have w2 : IntKind.u32.wrap (r' : Int) = (r' : Int) := by rw [IntKind.wrap_u32]; omega
            clear q1 q2 q3 q4 hlen
            go_enter Tryz.func115, Tryz.ntmps115
            go_wp2_with fail
            refine (c1 _ hA1).mono ?_
            rintro e w' ⟨rfl, rfl⟩
            clear c1
            go_wp2_with fail
            refine (c2 _ hcut).mono ?_
            rintro e w' ⟨rfl, rfl⟩
            clear c2
            go_wp2
            exact bodyPost_ret (v := .tuple #[.agg #[.int .u16 r, .int .u32 r'], .int .i64 ((s : Int) + (s' : Int)), .int .i64 0]) (by simp [results, Tryz.results115, go_sem]) rfl ⟨rfl, by first | exact hbz | exact (Below.refl _ _).alloc (Nat.le_refl _) _⟩
          · rw [q3 rfl rfl (fun h => hb2 h.2)]
            have hb2' : 4294967296 ≤ r' := by omega
            clear q1 q2 q3 q4 hlen hb2
            go_enter Tryz.func115, Tryz.ntmps115
            go_wp2_with fail
            refine (c1 _ hA1).mono ?_
            rintro e w' ⟨rfl, rfl⟩
            clear c1
            go_wp2_with fail
            refine (c2 _ hcut).mono ?_
            rintro e w' ⟨rfl, rfl⟩
            clear c2
            go_wp2
            exact bodyPost_ret (v := .tuple #[.agg #[.int .u16 0, .int .u32 0], .int .i64 0, .int .i64 5]) (by simp [results, Tryz.results115, go_sem]) rfl ⟨rfl, by first | exact hbz | exact (Below.refl _ _).alloc (Nat.le_refl _) _⟩
        · rw [q3 rfl rfl (fun h => hb1 h.1)]
          have hb1' : 65536 ≤ r := by omega
          clear q1 q2 q3 q4 hlen hb1
          go_enter Tryz.func115, Tryz.ntmps115
          go_wp2_with fail
          refine (c1 _ hA1).mono ?_
          rintro e w' ⟨rfl, rfl⟩
          clear c1
          go_wp2_with fail
          refine (c2 _ hcut).mono ?_
          rintro e w' ⟨rfl, rfl⟩
          clear c2
          go_wp2
          exact bodyPost_ret (v := .tuple #[.agg #[.int .u16 0, .int .u32 0], .int .i64 0, .int .i64 5]) (by simp [results, Tryz.results115, go_sem]) rfl ⟨rfl, by first | exact hbz | exact (Below.refl _ _).alloc (Nat.le_refl _) _⟩
      · rw [q2 rfl ht']
        have t1 : ((t' : Int) != 0) = true := by simp; omega
        clear q1 q2 q3 q4 hlen
        go_enter Tryz.func115, Tryz.ntmps115
        go_wp2_with fail
        refine (c1 _ hA1).mono ?_
        rintro e w' ⟨rfl, rfl⟩
        clear c1
        go_wp2_with fail
        refine (c2 _ hcut).mono ?_
        rintro e w' ⟨rfl, rfl⟩
        clear c2
        go_wp2
        exact bodyPost_ret (v := .tuple #[.agg #[.int .u16 0, .int .u32 0], .int .i64 0, .int .i64 t']) (by simp [results, Tryz.results115, go_sem]) rfl ⟨rfl, by first | exact hbz | exact (Below.refl _ _).alloc (Nat.le_refl _) _⟩
  · rw [q1 ht]
    have t1 : ((t : Int) != 0) = true := by simp; omega
    clear c2 c3 q1 q2 q3 q4 hlen hz
    go_enter Tryz.func115, Tryz.ntmps115
    go_wp2_with fail
    refine (c1 _ hA1).mono ?_
    rintro e w' ⟨rfl, rfl⟩
    clear c1
    go_wp2
    exact bodyPost_ret (v := .tuple #[.agg #[.int .u16 0, .int .u32 0], .int .i64 0, .int .i64 t]) (by simp [results, Tryz.results115, go_sem]) rfl ⟨rfl, by first | exact hbz | exact (Below.refl _ _).alloc (Nat.le_refl _) _⟩
end Go.Proofs.YtjmkecaljkcoiaaGreatDoor
