import Derived.Deep.RegionHeld3
import Derived.Test.YtjmkecaljkcoiaaDoorQPr
import Derived.Test.YtjmkecaljkcoiaaDoorQGet1
import Derived.Test.YtjmkecaljkcoiaaDoorQFlow
namespace Go.Proofs.YtjmkecaljkcoiaaDoor
open Go.RowKit
set_option linter.unusedVariables false
set_option linter.unusedSimpArgs false
theorem getR_bds : ∀ (l : List UInt8) (i acc : Nat), i ≤ 9 → acc < 2 ^ (7 * i) → (getR i acc l).1 < 18446744073709551616 ∧ (getR i acc l).2.1 ≤ i + l.length ∧ (getR i acc l).2.1 ≤ 10 ∧ (getR i acc l).2.2 ≤ 5
  | [], i, acc, _, _ => by rw [getR]; exact ⟨by decide, Nat.zero_le _, by decide, by decide⟩
  | x :: t, i, acc, hi, ha => by
    have hx := x.toNat_lt
    rw [getR]
    by_cases h9 : i = 9 ∧ 1 < x.toNat
    · rw [if_pos h9]; exact ⟨by decide, Nat.zero_le _, by decide, by decide⟩
    · rw [if_neg h9]
      have e : 2 ^ (7 * (i + 1)) = 128 * 2 ^ (7 * i) := by rw [show (128 : Nat) = 2 ^ 7 from rfl, ← Nat.pow_add]; congr 1; omega
      have h3 : x.toNat % 128 * 2 ^ (7 * i) ≤ 127 * 2 ^ (7 * i) := Nat.mul_le_mul_right _ (by omega)
      by_cases h1 : 128 ≤ x.toNat
      · rw [if_pos h1]
        have := getR_bds t (i + 1) (acc + x.toNat % 128 * 2 ^ (7 * i)) (by omega) (by rw [e]; omega)
        rw [List.length_cons]
        omega
      · rw [if_neg h1]
        by_cases h0 : x.toNat = 0 ∧ 0 < i
        · rw [if_pos h0]; exact ⟨by decide, Nat.zero_le _, by decide, by decide⟩
        · rw [if_neg h0, List.length_cons]
          refine ⟨?_, by show i + 1 ≤ i + (t.length + 1); omega, by show i + 1 ≤ 10; omega, Nat.zero_le _⟩
          show acc + x.toNat % 128 * 2 ^ (7 * i) < _
          by_cases hn : i = 9
          · subst hn
            have h5 : x.toNat % 128 * 2 ^ (7 * 9) ≤ 1 * 2 ^ (7 * 9) := Nat.mul_le_mul_right _ (by omega)
            have e1 : (2 : Nat) ^ (7 * 9) = 9223372036854775808 := by decide
            rw [e1] at h5 ha ⊢
            omega
          · have h4 : 2 ^ (7 * (i + 1)) ≤ 2 ^ 63 := Nat.pow_le_pow_right (by decide) (by omega)
            have e2 : (2 : Nat) ^ 63 = 9223372036854775808 := by decide
            rw [e, e2] at h4
            omega
theorem getF_bds (l : List UInt8) : (getF l).1 < 18446744073709551616 ∧ (getF l).2.1 ≤ l.length ∧ (getF l).2.1 ≤ 10 ∧ (getF l).2.2 ≤ 5 := by
  have := getR_bds l 0 0 (by decide) (by decide)
  simpa [getF] using this
def pidL (i k : Nat) : List UInt8 := shortL i ++ shortL k
def pidG (l : List UInt8) : Nat × Nat × Nat × Nat :=
  if (getF l).2.2 = 0 then
    if (getF (l.drop (getF l).2.1)).2.2 = 0 then
      if (getF l).1 < 65536 ∧ (getF (l.drop (getF l).2.1)).1 < 4294967296 then ((getF l).1, (getF (l.drop (getF l).2.1)).1, (getF l).2.1 + (getF (l.drop (getF l).2.1)).2.1, 0)
      else (0, 0, 0, 5)
    else (0, 0, 0, (getF (l.drop (getF l).2.1)).2.2)
  else (0, 0, 0, (getF l).2.2)
def MakesB (w : World) (L : List UInt8) (e : Ending) (w' : World) : Prop :=
  ∃ A c, e = .returned (.slice A L.length c) ∧ OwnB w' w.heap.size (.slice A L.length c) L.length L ∧ Below w.heap.size w w'
def OwnW (B n : Nat) (L : List UInt8) : Word := fun v w => OwnB w B v n L
theorem OwnW.steady (B n : Nat) (L : List UInt8) : Steady (OwnW B n L) := fun _ _ _ h hb => OwnB.later h hb
theorem putShort_word (A : Option Addr) (n c : Nat) (l : List UInt8) (B0 x m B : Nat) (w : World) (hA : Bs w B0 A n l) (hB0 : B0 ≤ w.heap.size) (hn : n ≤ 70368744177664) (hx : x < 18446744073709551616) (hB : B ≤ w.heap.size) (hm : m = n + (shortL x).length) :
    Calls Tryd.prog 103 #[.slice A n c, .int .u64 (x : Int)] w fun e w' => ∃ v, e = .returned v ∧ Below w.heap.size w w' ∧ OwnW B m (l ++ shortL x) v w' :=
  (putShort_any A n c l B0 x w hA hB0 hn hx).mono fun _ _ ⟨he, ho, hb, _⟩ => ⟨_, he, hb, by subst hm; exact ho.mono hB⟩
set_option maxRecDepth 100000 in
theorem ppid_any (A : Option Addr) (n c : Nat) (l : List UInt8) (B i k : Nat) (w : World) (hA : Bs w B A n l) (hB : B ≤ w.heap.size) (hn : n ≤ 1000000) (hi : i < 65536) (hk : k < 4294967296) :
    Calls Tryd.prog 104 #[.slice A n c, .agg #[.int .u16 (i : Int), .int .u32 (k : Int)]] w (MakesB w (l ++ pidL i k)) := by
  have hlen := hA.len
  have HL := hide hlen
  clear hlen
  obtain ⟨li, hli⟩ : ∃ m, m = (shortL i).length := ⟨_, rfl⟩
  obtain ⟨lk, hlk⟩ : ∃ m, m = (shortL k).length := ⟨_, rfl⟩
  have hi10 := (shortL_len i).2
  have hk10 := (shortL_len k).2
  rw [← hli] at hi10
  rw [← hlk] at hk10
  have HI := hide hli
  have HK := hide hlk
  clear hli hlk
  go_enter Tryd.func104, Tryd.ntmps104
  go_wp2
  have f0 : (w.alloc (.cells #[.int .u16 (i : Int), .int .u32 (k : Int)] 25)).cell? ⟨w.heap.size, 0, none⟩ = some (.int .u16 (i : Int)) := by go_simp
  have f1 : (w.alloc (.cells #[.int .u16 (i : Int), .int .u32 (k : Int)] 25)).cell? ⟨w.heap.size, 1, none⟩ = some (.int .u32 (k : Int)) := by go_simp
  have hb : Below w.heap.size w (w.alloc (.cells #[.int .u16 (i : Int), .int .u32 (k : Int)] 25)) := ((Below.refl _ _).alloc (Nat.le_refl _) _)
  have hA1 := hA.below (hb.mono hB)
  generalize (w.alloc (.cells #[.int .u16 (i : Int), .int .u32 (k : Int)] 25)) = w1 at f0 f1 hb hA1 ⊢
  have hs1 := hb.size
  have g0 : ∀ v : World, Below w1.heap.size w1 v → v.cell? ⟨w.heap.size, 0, none⟩ = some (.int .u16 (i : Int)) := fun v h => (h.cell (World.block_lt_of_cell? _ _ f0)).trans f0
  have g1 : ∀ v : World, Below w1.heap.size w1 v → v.cell? ⟨w.heap.size, 1, none⟩ = some (.int .u32 (k : Int)) := fun v h => (h.cell (World.block_lt_of_cell? _ _ f1)).trans f1
  clear f0 f1
  have wi : IntKind.u64.wrap (i : Int) = (i : Int) := by rw [IntKind.wrap_u64]; omega
  have wk : IntKind.u64.wrap (k : Int) = (k : Int) := by rw [IntKind.wrap_u64]; omega
  refine wp_region_flow (by kernel_rfl) (by kernel_rfl) (by kernel_rfl) ?_
  iterate 2
    refine flow_val rfl ?_
    apply Exists.intro
    apply And.intro
    · intro ρ w2 hr hf
      have r1 := hr.const
      have r2 := hr.func
      try simp [Oper.looksAt, Op.operands, Call.operands, tput, frameW, Act.eval] at hf
      go_simp
      try rfl
  refine flow_pure (.int .u16 (i : Int)) rfl ?_ ?_
  · intro ρ w2 hr hw hf
    have g2 := g0 w2 hw
    simp [Oper.looksAt, Op.operands, Call.operands, tput, frameW, Act.eval] at hf
    go_simp
  refine flow_val rfl ?_
  apply Exists.intro
  apply And.intro
  · intro ρ w2 hr hf
    simp [Oper.looksAt, Op.operands, Call.operands, tput, frameW, Act.eval] at hf
    go_simp
    try rfl
  refine flow_step (OwnW w.heap.size (n + li) (l ++ shortL i)) rfl (OwnW.steady _ _ _) ?_ ?_
  · intro ρ w2 hr hw hf
    have r2 := hr.func
    simp [Oper.looksAt, Op.operands, Call.operands, tput, frameW, Act.eval] at hf
    have H9 := hide (putShort_word A n c l B i (n + li) w.heap.size w2 (hA1.below (hw.mono (by omega))) (by have := hw.size; omega) (by omega) (by omega) (by have := hw.size; omega) (by rw [HI.out]))
    go_simp
    exact ⟨Below.refl _ _, unhide H9⟩
  refine flow_val rfl ?_
  apply Exists.intro
  apply And.intro
  · intro ρ w2 hr hf
    simp [Oper.looksAt, Op.operands, Call.operands, tput, frameW, Act.eval] at hf
    go_simp
    try rfl
  refine flow_pure (.int .u32 (k : Int)) rfl ?_ ?_
  · intro ρ w2 hr hw hf
    have g2 := g1 w2 hw
    simp [Oper.looksAt, Op.operands, Call.operands, tput, frameW, Act.eval] at hf
    go_simp
  refine flow_val rfl ?_
  apply Exists.intro
  apply And.intro
  · intro ρ w2 hr hf
    simp [Oper.looksAt, Op.operands, Call.operands, tput, frameW, Act.eval] at hf
    go_simp
    try rfl
  refine flow_step (OwnW w.heap.size (n + li + lk) (l ++ pidL i k)) rfl (OwnW.steady _ _ _) ?_ ?_
  · intro ρ w2 hr hw hf
    have r2 := hr.func
    simp [Oper.looksAt, Op.operands, Call.operands, tput, frameW, Act.eval] at hf
    generalize hu : ρ (.tmp 9) = u9 at hf
    obtain ⟨h9, h12⟩ := hf
    obtain ⟨A9, c9, rfl⟩ := OwnB.shape h9
    have h8 := putShort_word A9 (n + li) c9 (l ++ shortL i) _ k (n + li + lk) w.heap.size w2 h9.bs (Nat.le_refl _) (by omega) (by omega) (by have := hw.size; omega) (by rw [HK.out])
    rw [List.append_assoc] at h8
    have H9 := hide h8
    clear h8
    clear h9
    go_simp
    exact ⟨Below.refl _ _, unhide H9⟩
  refine flow_step (OwnW w.heap.size (n + li + lk) (l ++ pidL i k)) rfl (OwnW.steady _ _ _) ?_ ?_
  · intro ρ w2 hr hw hf
    simp [Oper.looksAt, Op.operands, Call.operands, tput, frameW, Act.eval] at hf
    generalize hu : ρ (.tmp 13) = u9 at hf
    have HF := hide hf
    clear hf
    go_simp
    exact ⟨Below.refl _ _, unhide HF⟩
  refine flow_nil ?_
  intro f w2 hw hf
  have h4 := hf 4
  simp [tput, frameW, Act.eval] at h4
  rw [show frameOf f _ _ = ⟨#[f 0, f 1, f 2, f 3, f 4, f 5, f 6, f 7, f 8, f 9, f 10, f 11, f 12, f 13], []⟩ from rfl]
  clear hf
  obtain ⟨A9, c9, h9⟩ := OwnB.shape h4
  rw [h9] at h4 ⊢
  have HB := hide (hb.trans (hw.mono hs1))
  have HO := hide h4
  clear h9 h4 hw hb
  have e1 : n + li + lk = (l ++ pidL i k).length := by rw [pidL, List.length_append, List.length_append, HL.out, HI.out, HK.out, Nat.add_assoc]
  have hm : MakesB w (l ++ pidL i k) (.returned (.slice A9 (n + li + lk) c9)) w2 := ⟨A9, c9, by rw [e1], e1 ▸ HO.out, HB.out⟩
  have HM := Lib.hid hm
  clear HO HB e1 hm
  go_wp2
  go_ret
  exact HM.out
set_option maxRecDepth 100000 in
theorem rpid_any (i k : Nat) (w : World) (hi : i < 65536) (hk : k < 4294967296) :
    Calls Tryd.prog 39 #[.agg #[.int .u16 (i : Int), .int .u32 (k : Int)]] w (MakesB w (pidL i k)) := by
  obtain ⟨li, hli⟩ : ∃ m, m = (shortL i).length := ⟨_, rfl⟩
  obtain ⟨lk, hlk⟩ : ∃ m, m = (shortL k).length := ⟨_, rfl⟩
  have hi10 := (shortL_len i).2
  have hk10 := (shortL_len k).2
  have r1 := fun W => rshort_any i W (by omega)
  have r2 := fun W => rshort_any k W (by omega)
  rw [← hli] at hi10 r1
  rw [← hlk] at hk10 r2
  have HI := hide hli
  have HK := hide hlk
  clear hli hlk
  go_enter Tryd.func39, Tryd.ntmps39
  go_wp2
  have f0 : (w.alloc (.cells #[.int .u16 (i : Int), .int .u32 (k : Int)] 25)).cell? ⟨w.heap.size, 0, none⟩ = some (.int .u16 (i : Int)) := by go_simp
  have f1 : (w.alloc (.cells #[.int .u16 (i : Int), .int .u32 (k : Int)] 25)).cell? ⟨w.heap.size, 1, none⟩ = some (.int .u32 (k : Int)) := by go_simp
  have hb : Below w.heap.size w (w.alloc (.cells #[.int .u16 (i : Int), .int .u32 (k : Int)] 25)) := ((Below.refl _ _).alloc (Nat.le_refl _) _)
  generalize (w.alloc (.cells #[.int .u16 (i : Int), .int .u32 (k : Int)] 25)) = w1 at f0 f1 hb ⊢
  have hs1 := hb.size
  have l1 : w.heap.size < w1.heap.size := World.block_lt_of_cell? _ _ f0
  have wi : IntKind.u64.wrap (i : Int) = (i : Int) := by rw [IntKind.wrap_u64]; omega
  have wk : IntKind.u64.wrap (k : Int) = (k : Int) := by rw [IntKind.wrap_u64]; omega
  go_region_held3 (fun w' => w'.cell? ⟨w.heap.size, 0, none⟩ = some (.int .u16 (i : Int)) ∧ w'.cell? ⟨w.heap.size, 1, none⟩ = some (.int .u32 (k : Int)))
    (first | exact ⟨f0, f1⟩ | exact ⟨(hq2.cell l1).trans f0, (hq2.cell l1).trans f1⟩ | exact ⟨(hq3.cell l1).trans f0, (hq3.cell l1).trans f1⟩ | exact ⟨(hq4.cell (Nat.lt_of_lt_of_le l1 (Nat.le_refl _))).trans f0, (hq4.cell l1).trans f1⟩)
    (first | ((with_reducible refine (r1 _).mono ?_); rintro e w2 ⟨A2, c2, rfl, ho2, hb2⟩; have hq2 : Below w1.heap.size w1 w2 := Below.trans ((Below.refl _ _).drew) hb2) | ((with_reducible refine (r2 _).mono ?_); rintro e w3 ⟨A3, c3, rfl, ho3, hb3⟩; have hq3 : Below w1.heap.size w1 w3 := hq2.trans (hb3.mono hq2.size)) | (refine step_bytes_own _ rfl (.tmp 6) (.tmp 10) rfl w1.heap.size li _ (shortL i) (by simp [Act.eval, Act.put]) (ho2.later hb3) _ A3 lk c3 (shortL k) (by simp [Act.eval, Act.put]) ho3.bs (by omega) w1.heap.size w1 hq3 (Nat.le_refl _) hq3.size ?_; intro A4 c4 w4 ho4 hq4 _))
  have e1 : li + lk = (pidL i k).length := by rw [pidL, List.length_append, HI.out, HK.out]
  have hm : MakesB w (pidL i k) (.returned (.slice A4 (li + lk) c4)) w4 := ⟨A4, c4, by rw [e1], e1 ▸ ho4.mono hs1, hb.trans (hq4.mono hs1)⟩
  have HM := Lib.hid hm
  clear hm e1 ho4 hq4 ho2 ho3 hb2 hb3 hq2 hq3
  go_wp2
  go_ret
  exact HM.out
theorem pidG_1 {l : List UInt8} (h1 : (getF l).2.2 ≠ 0) : pidG l = (0, 0, 0, (getF l).2.2) := by rw [pidG, if_neg h1]
theorem pidG_2 {l : List UInt8} (h1 : (getF l).2.2 = 0) (h2 : (getF (l.drop (getF l).2.1)).2.2 ≠ 0) : pidG l = (0, 0, 0, (getF (l.drop (getF l).2.1)).2.2) := by rw [pidG, if_pos h1, if_neg h2]
theorem pidG_3 {l : List UInt8} (h1 : (getF l).2.2 = 0) (h2 : (getF (l.drop (getF l).2.1)).2.2 = 0) (h3 : ¬ ((getF l).1 < 65536 ∧ (getF (l.drop (getF l).2.1)).1 < 4294967296)) : pidG l = (0, 0, 0, 5) := by
  rw [pidG, if_pos h1, if_pos h2, if_neg h3]
theorem pidG_4 {l : List UInt8} (h1 : (getF l).2.2 = 0) (h2 : (getF (l.drop (getF l).2.1)).2.2 = 0) (h3 : (getF l).1 < 65536 ∧ (getF (l.drop (getF l).2.1)).1 < 4294967296) :
    pidG l = ((getF l).1, (getF (l.drop (getF l).2.1)).1, (getF l).2.1 + (getF (l.drop (getF l).2.1)).2.1, 0) := by
  rw [pidG, if_pos h1, if_pos h2, if_pos h3]
def GetsP (w : World) (q : Nat × Nat × Nat × Nat) (e : Ending) (w' : World) : Prop :=
  e = .returned (.tuple #[.agg #[.int .u16 (q.1 : Int), .int .u32 (q.2.1 : Int)], .int .i64 (q.2.2.1 : Int), .int .i64 (q.2.2.2 : Int)]) ∧ Below w.heap.size w w'
end Go.Proofs.YtjmkecaljkcoiaaDoor
