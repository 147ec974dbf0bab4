/-
  Frames: the contract of Encode.
-/
import Derived.Test.YtkhkihobbfecoaaFrame2
import Derived.Test.YtkhkihobbfecoaaFlowT
namespace Go.Proofs.Ytkhkihobbfecoaa
open Go.RowKit
set_option linter.unusedVariables false
set_option linter.unusedSimpArgs false

theorem ppid_word (A : Option Addr) (n c : Nat) (l : List UInt8) (i k m B : Nat) (w : World) (hA : Bs w w.heap.size A n l) (hn : n ≤ 1000000) (hi : i < 65536) (hk : k < 4294967296) (hB : B ≤ w.heap.size) (hm : m = n + (pidL i k).length) :
    Calls Try.prog 22 #[.slice A n c, .agg #[.int .u16 (i : Int), .int .u32 (k : Int)]] w fun e w' => ∃ v, e = .returned v ∧ Below w.heap.size w w' ∧ OwnW B m (l ++ pidL i k) v w' :=
  (ppid_any A n c l _ i k w hA (Nat.le_refl _) hn hi hk).mono fun _ _ ⟨A', c', he, ho, hb⟩ => ⟨_, he, hb, by
    have e : (l ++ pidL i k).length = m := by rw [List.length_append, hA.len, hm]
    rw [e] at ho ⊢
    exact ho.mono hB⟩
theorem encode_no (k : Int) (i c j d s : Nat) (A : Option Addr) (n q : Nat) (w : World) (hk0 : -9223372036854775808 ≤ k) (hk1 : k ≤ 9223372036854775807) (hi : i < 65536) (hc : c < 4294967296) (hj : j < 65536) (hd : d < 4294967296) (hn : n ≤ 140737488355328) (hf : checkF k i c j d n ≠ 0) :
    Calls Try.prog 10 #[.agg #[.int .i64 (k : Int), .int .u16 (i : Int), .int .u32 (c : Int), .int .u16 (j : Int), .int .u32 (d : Int), .int .u64 (s : Int), .slice A n q]] w fun e w' => e = .returned (.tuple #[.slice none 0 0, .int .i64 (checkF k i c j d n : Nat)]) ∧ Below w.heap.size w w' := by
  have c1 := fun W => check_any k i c j d s A n q W hk0 hk1 hi hc hj hd hn
  obtain ⟨f, hF⟩ : ∃ f, f = checkF k i c j d n := ⟨_, rfl⟩
  rw [← hF] at hf c1 ⊢
  have t : ((f : Int) != 0) = true := by simp; omega
  clear hF hf
  go_enter Try.func10, Try.ntmps10
  go_wp2_with fail
  refine (c1 _).mono ?_
  rintro e w1 ⟨rfl, hb1⟩
  have hb2 := ((Below.refl _ _).alloc (Nat.le_refl w.heap.size) (.cells #[.int .i64 (k : Int), .int .u16 (i : Int), .int .u32 (c : Int), .int .u16 (j : Int), .int .u32 (d : Int), .int .u64 (s : Int), .slice A n q] 29)).trans (hb1.mono (by simp))
  go_wp2
  go_ret2
  exact ⟨rfl, hb2⟩
set_option maxRecDepth 100000 in
theorem encode_yes (k i c j d s : Nat) (A : Option Addr) (n q m : Nat) (l : List UInt8) (w : World) (hA : Bs w w.heap.size A n l) (hi : i < 65536) (hc : c < 4294967296) (hj : j < 65536) (hd : d < 4294967296) (hs : s < 18446744073709551616) (hf : checkF (k : Int) i c j d n = 0) (hm : m = (frameL k i c j d s l).length) :
    Calls Try.prog 10 #[.agg #[.int .i64 (k : Int), .int .u16 (i : Int), .int .u32 (c : Int), .int .u16 (j : Int), .int .u32 (d : Int), .int .u64 (s : Int), .slice A n q]] w fun e w' => ∃ A' c', e = .returned (.tuple #[.slice A' m c', .int .i64 0]) ∧ OwnB w' w.heap.size (.slice A' m c') m (frameL k i c j d s l) ∧ Below w.heap.size w w' := by
  obtain ⟨k0, k3, i16, c0, j16, d0, hn⟩ := checkF_ok hf
  have hk3 : k ≤ 3 := by omega
  have c1 := fun W => check_any (k : Int) i c j d s A n q W (by omega) (by omega) hi hc hj hd (by omega)
  rw [hf] at c1
  have hlen := hA.len
  have hfl := fldL_len i c j d s
  have hpi := pidL_len i c
  have hpj := pidL_len j d
  have hps := (shortL_len s).2
  obtain ⟨li, hli⟩ : ∃ x, x = (pidL i c).length := ⟨_, rfl⟩
  obtain ⟨lj, hlj⟩ : ∃ x, x = li + (pidL j d).length := ⟨_, rfl⟩
  obtain ⟨fl, hfe⟩ : ∃ x, x = (fldL i c j d s).length := ⟨_, rfl⟩
  have hfl2 : fl = lj + (shortL s).length := by rw [hfe, fldL, List.length_append, List.length_append, hlj, hli]
  have hwh : m = 12 + (fl + n) := by rw [hm, frameL_len, ← hfe, hlen]
  have hbare : bareL k i c j d s l = headL k (12 + (fl + n)) ++ (fldL i c j d s ++ l) := by rw [bareL, ← hfe, hlen]
  have hform := head_form k (12 + (fl + n)) (by omega) (by omega)
  have hb1 : Bs w w.heap.size none 0 [] := Bs.none_
  have HLI := hide hli
  have HLJ := hide hlj
  have HFL := hide hfl2
  have HB := hide hbare
  have HF := hide hform
  have HM := hide hwh
  have e8 : (8 : Int) + (fl : Int) + (n : Int) + 4 = ((12 + (fl + n) : Nat) : Int) := by omega
  rw [← hli] at hpi
  have hlj40 : lj ≤ 40 := by omega
  rw [← hfe] at hfl
  clear hf hlen hli hlj hfe hfl2 hm hwh hbare hform hb1 k0 k3 hpj hps
  go_enter Try.func10, Try.ntmps10
  go_wp2_with fail
  refine (c1 _).mono ?_
  rintro e w1 ⟨rfl, hb1⟩
  have hP1 : PkAt w1 w.heap.size k i c j d s A n q := (PkAt.new w).later hb1
  have hb2 := ((Below.refl _ _).alloc (Nat.le_refl w.heap.size) (.cells #[.int .i64 ((k : Int) : Int), .int .u16 (i : Int), .int .u32 (c : Int), .int .u16 (j : Int), .int .u32 (d : Int), .int .u64 (s : Int), .slice A n q] 29)).trans (hb1.mono (by simp))
  have hA1 := hA.below hb2
  have hs1 := hb2.size
  clear hb1 c1
  go_wp2
  have g0 : ∀ v : World, Below w1.heap.size w1 v → PkAt v w.heap.size k i c j d s A n q := fun v h => hP1.later h
  have G0 := hide g0
  refine wp_region_flow (by kernel_rfl) (by kernel_rfl) (by kernel_rfl) ?_
  refine flow_val rfl ?_
  apply Exists.intro
  apply And.intro
  · intro ρ w8 hr hf
    have r1 := hr.const
    have r2 := hr.func
    try simp [Oper.looksAt, Op.operands, Call.operands, tput, frameW, Act.eval] at hf
    go_simp
    try rfl
  refine flow_pure (.agg #[.int .u16 (i : Int), .int .u32 (c : Int)]) rfl ?_ ?_
  · intro ρ w2 hr hw hf
    obtain ⟨f0, f1, f2, f3, f4, f5, f6⟩ := (G0.out w2 hw).cells
    simp [Oper.looksAt, Op.operands, Call.operands, tput, frameW, Act.eval] at hf
    go_simp
  refine flow_step (OwnW w1.heap.size li (pidL i c)) rfl (OwnW.steady _ _ _) ?_ ?_
  · intro ρ w2 hr hw hf
    have r1 := hr.const
    have r2 := hr.func
    simp [Oper.looksAt, Op.operands, Call.operands, tput, frameW, Act.eval] at hf
    have h9 := ppid_word none 0 0 [] i c li w1.heap.size w2 Bs.none_ (by omega) hi hc hw.size (by rw [HLI.out, Nat.zero_add])
    rw [List.nil_append] at h9
    have H9 := hide h9
    clear h9
    go_simp
    exact ⟨Below.refl _ _, unhide H9⟩
  refine flow_val rfl ?_
  apply Exists.intro
  apply And.intro
  · intro ρ w8 hr hf
    have r1 := hr.const
    have r2 := hr.func
    try simp [Oper.looksAt, Op.operands, Call.operands, tput, frameW, Act.eval] at hf
    go_simp
    try rfl
  refine flow_pure (.agg #[.int .u16 (j : Int), .int .u32 (d : Int)]) rfl ?_ ?_
  · intro ρ w2 hr hw hf
    obtain ⟨f0, f1, f2, f3, f4, f5, f6⟩ := (G0.out w2 hw).cells
    simp [Oper.looksAt, Op.operands, Call.operands, tput, frameW, Act.eval] at hf
    go_simp
  refine flow_step (OwnW w1.heap.size lj (pidL i c ++ pidL j d)) rfl (OwnW.steady _ _ _) ?_ ?_
  · intro ρ w2 hr hw hf
    have r2 := hr.func
    simp [Oper.looksAt, Op.operands, Call.operands, tput, frameW, Act.eval] at hf
    generalize hu : ρ (.tmp 15) = u9 at hf
    obtain ⟨h9, h12⟩ := hf
    obtain ⟨A9, c9, rfl⟩ := OwnB.shape h9
    have H9 := hide (ppid_word A9 li c9 (pidL i c) j d lj w1.heap.size w2 h9.bs (by omega) hj hd hw.size HLJ.out)
    clear h9
    go_simp
    exact ⟨Below.refl _ _, unhide H9⟩
  refine flow_val rfl ?_
  apply Exists.intro
  apply And.intro
  · intro ρ w8 hr hf
    have r1 := hr.const
    have r2 := hr.func
    try simp [Oper.looksAt, Op.operands, Call.operands, tput, frameW, Act.eval] at hf
    go_simp
    try rfl
  refine flow_pure (.int .u64 (s : Int)) rfl ?_ ?_
  · intro ρ w2 hr hw hf
    obtain ⟨f0, f1, f2, f3, f4, f5, f6⟩ := (G0.out w2 hw).cells
    simp [Oper.looksAt, Op.operands, Call.operands, tput, frameW, Act.eval] at hf
    go_simp
  refine flow_step (OwnW w1.heap.size fl (fldL i c j d s)) rfl (OwnW.steady _ _ _) ?_ ?_
  · intro ρ w2 hr hw hf
    have r2 := hr.func
    simp [Oper.looksAt, Op.operands, Call.operands, tput, frameW, Act.eval] at hf
    generalize hu : ρ (.tmp 18) = u9 at hf
    obtain ⟨h9, h12⟩ := hf
    obtain ⟨A9, c9, rfl⟩ := OwnB.shape h9
    have H9 := hide (putShort_word A9 lj c9 (pidL i c ++ pidL j d) _ s fl w1.heap.size w2 h9.bs (Nat.le_refl _) (by omega) hs hw.size HFL.out)
    clear h9
    go_simp
    exact ⟨Below.refl _ _, unhide H9⟩
  refine flow_step (OwnW w1.heap.size fl (fldL i c j d s)) rfl (OwnW.steady _ _ _) ?_ ?_
  · intro ρ w2 hr hw hf
    simp [Oper.looksAt, Op.operands, Call.operands, tput, frameW, Act.eval] at hf
    generalize hu : ρ (.tmp 21) = u9 at hf
    have HF := hide hf
    clear hf
    go_simp
    exact ⟨Below.refl _ _, unhide HF⟩
  refine flow_nil ?_
  intro f w2 hw hf
  have h1 := hf 1
  have h5 := hf 5
  simp [tput, frameW, Act.eval] at h1 h5
  rw [show frameOf f _ _ = ⟨#[f 0, f 1, f 2, f 3, f 4, f 5, f 6, f 7, f 8, f 9, f 10, f 11, f 12, f 13, f 14, f 15, f 16, f 17, f 18, f 19, f 20, f 21, f 22, f 23, f 24, f 25, f 26, f 27, f 28, f 29, f 30, f 31, f 32, f 33, f 34, f 35, f 36, f 37, f 38, f 39, f 40, f 41, f 42, f 43], []⟩ from rfl, h1]
  clear hf h1 g0
  obtain ⟨A5, c5, h9⟩ := OwnB.shape h5
  rw [h9] at h5 ⊢
  have hO5 : OwnB w2 w1.heap.size (.slice A5 fl c5) fl (fldL i c j d s) := h5
  have hP2 := G0.out w2 hw
  have hA2 := (hA1.below (hw.mono hs1)).more (B' := w2.heap.size) (by have := hw.size; omega)
  have hb3 := hb2.trans (hw.mono hs1)
  have hs2 := hb3.size
  clear h5 h9 hw G0 hP1 hA1 hb2
  obtain ⟨f0, f1, f2, f3, f4, f5, f6⟩ := hP2.cells
  go_wp2_with fail
  refine (head_any k (12 + (fl + n)) _ hk3 (by omega)).mono ?_
  rintro e w' ⟨rfl, rfl⟩
  go_wp2_with fail
  refine (put_any none 0 0 [] 0 (headN k (12 + (fl + n))) 8 _ Bs.none_ (Nat.zero_le _) (by omega) (by unfold headN; omega) (by decide)).mono ?_
  rintro e w3 ⟨rfl, hO7, hb7, hlt7⟩
  rw [HF.out] at hO7
  simp only [Nat.zero_add, List.nil_append] at hO7 ⊢
  have hO5b := (hO5.later hb7).bs
  have hP3 := hP2.later hb7
  have hA3 := (hA2.below hb7).more hb7.size
  have b8 : 8 + fl ≤ 140737488355328 := by omega
  have b9 : 8 + fl + n ≤ 140737488355328 := by omega
  clear hO5 f0 f1 f2 f3 f4 f5 f6
  go_wp2_with (at_builtin; refine wp_bytes_own _ rfl (.tmp 35) (.tmp 36) rfl w2.heap.size 8 _ (headL k (12 + (fl + n))) rfl hO7 _ A5 fl c5 (fldL i c j d s) rfl hO5b b8 w2.heap.size w2 hb7 (Nat.le_refl _) hb7.size ?_)
  intro A6 c6 w4 hO6 hb6 hsz6
  have hP4 : PkAt w4 w.heap.size k i c j d s A n q := hP2.later hb6
  have hA4 := (hA2.below hb6).more hb6.size
  clear hO7 hO5b hP3 hA3 hb7 hlt7 hsz6
  obtain ⟨f0, f1, f2, f3, f4, f5, f6⟩ := hP4.cells
  go_wp2_with (at_builtin; refine wp_bytes_own _ rfl (.tmp 38) (.tmp 40) rfl w2.heap.size (8 + fl) _ (headL k (12 + (fl + n)) ++ fldL i c j d s) rfl hO6 _ A n q l rfl hA4 b9 w2.heap.size w2 hb6 (Nat.le_refl _) hb6.size ?_)
  intro A7 c7 w5 hO7 hb7 hsz7
  try rw [List.append_assoc] at hO7
  rw [← HB.out] at hO7
  clear hO6 hb6 hsz7 f0 f1 f2 f3 f4 f5 f6 hP4 hA4
  go_wp2_with fail
  refine (seal_any A7 (8 + fl + n) c7 _ _ _ hO7.bs (Nat.le_refl _) (by omega)).mono ?_
  rintro e w6 ⟨A8, c8, rfl, hO8, hb8⟩
  have hbz := hb3.trans ((hb7.trans (hb8.mono hb7.size)).mono hs2)
  have hO9 := hO8.mono (base' := w.heap.size) (by have := hb7.size; omega)
  have em : 8 + fl + n + 4 = m := by rw [HM.out]; omega
  rw [em] at hO9 ⊢
  clear hO8 hb8 hO7 hb7 em e8
  go_wp2
  go_ret2
  exact ⟨_, _, rfl, hO9, hbz⟩
end Go.Proofs.Ytkhkihobbfecoaa
