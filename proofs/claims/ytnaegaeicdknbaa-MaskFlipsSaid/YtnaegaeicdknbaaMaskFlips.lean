/-
  The law choraguslaw05.MaskFlips answers true, and does not panic, for every argument that its row allows. Conditions: none but the row's own.
-/
import Derived.Test.YtnaegaeicdknbaaRows
import Derived.WalkKit
import Derived.ProofKit
import Derived.OpenShut
import Derived.ShutString
import Derived.ChangeOld
import Derived.Below
import Derived.Test.YtnaegaeicdknbaaOpen
import Derived.Test.YtnaegaeicdknbaaOpenM
import Derived.Test.YtnaegaeicdknbaaMask5
import Derived.Test.YtnaegaeicdknbaaFlowA
namespace Go.Proofs.Ytnaegaeicdknbaa.maskFlips
open Go.ChangeShapes Go.WideShapes Go.ChangeAt Go.RowKit
open Go.ChangeMaps (open_string shut_string)
set_option linter.unusedVariables false
set_option linter.unusedSimpArgs false

theorem zeroMask (w : World) : (zeroValue 24).run Try.prog w = .ok (.agg #[.int .u64 (0 : Int), .int .u64 (0 : Int)]) w := by kernel_rfl
theorem sizeMask : (Try.prog.info? 24).map (·.size) = some 2 := by kernel_rfl
theorem newW_mat {v : Value} {w : World} {B : Nat} (h : NewW 24 (.agg #[.int .u64 (0 : Int), .int .u64 (0 : Int)] : Value).cells B v w) : ∃ g, v = .pointer (some ⟨g, 0, none⟩) ∧ B ≤ g ∧ MAt w g 0 0 := h
set_option maxRecDepth 100000 in
theorem walk0 (a b c d : Nat) (n : Int) (w : World) (ha : a < 18446744073709551616) (hb : b < 18446744073709551616) (hc : c < 18446744073709551616) (hd : d < 18446744073709551616) (hn : (Lit.int .u8 n).wf = true) (hp : false = bitM a b (n % 128).toNat) :
    Calls Try.prog 7 #[.agg #[.int .u64 (a : Int), .int .u64 (b : Int)], .agg #[.int .u64 (c : Int), .int .u64 (d : Int)], .int .u8 n] w fun e w' => e = .returned (.bool true) ∧ Below w.heap.size w w' := by
  have hn' := wf_u8 hn
  clear hn
  obtain ⟨m, rfl⟩ := Int.eq_ofNat_of_zero_le hn'.1
  obtain ⟨k, hk⟩ : ∃ k, k = m % 128 := ⟨_, rfl⟩
  rw [show ((m : Int) % 128).toNat = k from by omega] at hp
  have hk128 : k < 128 := by omega
  have e1 : (m : Int) % 128 = (k : Int) := by omega
  clear hk hn'
  have ch := fun W => has_any a b k W ha hb hk128
  obtain ⟨w2, hw2⟩ : ∃ w2, w2 = (w.alloc (.cells #[.int .u64 (a : Int), .int .u64 (b : Int)] 24)).alloc (.cells #[.int .u64 (c : Int), .int .u64 (d : Int)] 24) := ⟨_, rfl⟩
  have m0 : MAt w2 w.heap.size a b := by rw [hw2]; exact (MAt.mk_ w a b).alloc _
  have m1 : MAt w2 (w.heap.size + 1) c d := by rw [hw2]; have := MAt.mk_ (w.alloc (.cells #[.int .u64 (a : Int), .int .u64 (b : Int)] 24)) c d; simpa only [World.size_alloc] using this
  have hb0 : Below w.heap.size w w2 := by rw [hw2]; exact ((Below.refl _ _).alloc (Nat.le_refl _) _).alloc (by simp) _
  have hq0 := mask_self a b ha hb
  have hq1 : ∀ w, (Op.equalIn 10000 24 (.agg #[.int .u64 0, .int .u64 0]) (.agg #[.int .u64 0, .int .u64 0])).run Try.prog w = .ok true w := mask_self 0 0 (by decide) (by decide)
  rw [← hp] at ch
  have HP := hide hp
  clear hp
  -- the second half: what is in both, and what is in the first one alone
  have c1 := fun W => mand_any a b c d W ha hb hc hd
  have c2 := fun W => mminus_any a b c d W ha hb hc hd
  have lx1 := and_lt64 c ha
  have lx2 := and_lt64 d hb
  have ly1 := and_lt64 (18446744073709551615 - c) ha
  have ly2 := and_lt64 (18446744073709551615 - d) hb
  have c3 := fun W => mor_any (a &&& c) (b &&& d) (a &&& (18446744073709551615 - c)) (b &&& (18446744073709551615 - d)) W lx1 lx2 ly1 ly2
  have c4 := fun W => mand_any (a &&& c) (b &&& d) (a &&& (18446744073709551615 - c)) (b &&& (18446744073709551615 - d)) W lx1 lx2 ly1 ly2
  have hor := mask_ext (or_lt64 lx1 ly1) (or_lt64 lx2 ly2) ha hb (fun i hi => by
    rw [or_bit, and_bit, minus_bit a b c d i hc hd hi]
    cases bitM a b i <;> cases bitM c d i <;> rfl)
  have hand := mask_ext (c := 0) (d := 0) (and_lt64 (a &&& (18446744073709551615 - c)) lx1) (and_lt64 (b &&& (18446744073709551615 - d)) lx2) (by decide) (by decide) (fun i hi => by
    rw [and_bit, and_bit, minus_bit a b c d i hc hd hi, zero_bit]
    cases bitM a b i <;> cases bitM c d i <;> rfl)
  have hsum : popM (a &&& c) (b &&& d) + popM (a &&& (18446744073709551615 - c)) (b &&& (18446744073709551615 - d)) = popM a b := by
    unfold popM
    rw [cnt_congr (p := bitM (a &&& c) (b &&& d)) (q := fun i => bitM a b i && bitM c d i) (fun i hi => and_bit a b c d i), cnt_congr (p := bitM (a &&& (18446744073709551615 - c)) (b &&& (18446744073709551615 - d))) (q := fun i => bitM a b i && !bitM c d i) (fun i hi => minus_bit a b c d i hc hd hi)]
    exact cnt_split _ _ _
  rw [hor.1, hor.2] at c3
  rw [hand.1, hand.2] at c4
  have c5 := fun W => count_any (a &&& c) (b &&& d) W lx1 lx2
  have c6 := fun W => count_any (a &&& (18446744073709551615 - c)) (b &&& (18446744073709551615 - d)) W ly1 ly2
  have c7 := fun W => count_any a b W ha hb
  have hs7 := popM_le a b
  have hs5 := popM_le (a &&& c) (b &&& d)
  have hs6 := popM_le (a &&& (18446744073709551615 - c)) (b &&& (18446744073709551615 - d))
  clear lx1 lx2 ly1 ly2 hor hand
  generalize popM (a &&& c) (b &&& d) = t1 at *
  generalize popM (a &&& (18446744073709551615 - c)) (b &&& (18446744073709551615 - d)) = t2 at *
  generalize popM a b = t3 at *
  generalize a &&& c = x1 at *
  generalize b &&& d = x2 at *
  generalize a &&& (18446744073709551615 - c) = y1 at *
  generalize b &&& (18446744073709551615 - d) = y2 at *
  have heq : ((t1 : Int) + (t2 : Int) == (t3 : Int)) = true := by simp; omega
  clear hsum
  · have cw := fun W => with_any a b k W ha hb hk128
    have cx := fun W => wout_any (putA a k) (putB b k) k W (putA_lt ha) (putB_lt hb hk128) hk128
    have hx := mask_ext (a := cutA (putA a k) k) (b := cutB (putB b k) k) (c := a) (d := b) (cutA_lt (putA_lt ha)) (cutB_lt (putB_lt hb hk128)) ha hb (fun i hi => by
      rw [cut_bit _ _ _ _ hk128 hi, put_bit _ _ _ _ hk128 hi]
      by_cases h : i = k
      · subst h; rw [← HP.out]; simp
      · simp [h])
    rw [hx.1, hx.2] at cx
    clear hx HP
    generalize putA a k = z1 at *
    generalize putB b k = z2 at *
    go_enter Try.func7, Try.ntmps7
    go_wp2_with fail
    rw [← hw2]
    refine (ch _).mono ?_
    rintro e w3 ⟨rfl, hbx⟩
    have n0 := m0.later hbx
    have n1 := m1.later hbx
    have hb3 := hb0.trans (hbx.mono hb0.size)
    clear hbx hb0 m0 m1 hw2 ch
    have g0 := Later.cell n0.c0
    have g1 := Later.cell n0.c1
    go_wp2_with fail
    refine wp_region_calm (by kernel_rfl) (by kernel_rfl) ?_
    have k1 := fun x : Later w3 => calm_of (cw x.w)
    have k2 := fun x : Later w3 => calm_of (cx x.w)
    repeat (go_big_quiet_step (first | (go_at_call 12; with_reducible exact k1 _) | (go_at_call 14; with_reducible exact k2 _)))
    refine wpQuiet_nil ?_
    rintro _ ⟨x9, rfl⟩
    have hb9 := x9.below
    generalize x9.w = w9 at hb9 ⊢
    go_wp2_with fail
    have hb5 := hb3.trans (hb9.mono hb3.size)
    have p0 := n0.later hb9
    have p1 := n1.later hb9
    clear hb3 hb9 n0 n1 k1 k2 cw cx g0 g1
    have P0 := hide p0
    have P1 := hide p1
    clear p0 p1
    refine wp_region_flow_apart 8 [8, 9] (by kernel_rfl) (by kernel_rfl) (by kernel_rfl) (makers_of zeroMask (by kernel_rfl)) ⟨?_, ?_⟩ ?_
    · intro s hs p hp
      simp only [List.mem_cons, List.mem_nil_iff, or_false] at hs
      rcases hs with rfl | rfl <;> (simp [Act.eval] at hp; cases hp)
    · intro s hs t ht hst p q hp hq
      simp only [List.mem_cons, List.mem_nil_iff, or_false] at hs
      rcases hs with rfl | rfl <;> (simp [Act.eval] at hp; cases hp)
    simp only [List.take_succ_cons, List.take_zero, List.drop_succ_cons, List.drop_zero]
    refine flow_row _ rfl rfl (fun v w8 h8 => by simpa [tput, frameW, Act.eval] using h8) P0.out Try.underlying24 rfl sizeMask ?_
    refine flow_row _ rfl rfl (fun v w8 h8 => by simpa [tput, frameW, Act.eval] using h8) P1.out Try.underlying24 rfl sizeMask ?_
    refine flow_step (fun v _ => v = .agg #[.int .u64 (x1 : Int), .int .u64 (x2 : Int)]) rfl (fun _ _ _ h _ => h) ?_ ?_
    · intro ρ w8 hr hw hf
      have r2 := hr.func
      simp [Oper.looksAt, Op.operands, Call.operands, tput, frameW, Act.eval] at hf
      have CN := hide (c1 w8)
      clear P0 P1
      go_simp
      refine ⟨Below.refl _ _, (unhide CN).mono ?_⟩
      rintro e w7 ⟨rfl, hb7⟩
      exact ⟨_, rfl, hb7, rfl⟩
    refine flow_row _ rfl rfl (fun v w8 h8 => by simpa [tput, frameW, Act.eval] using h8) P0.out Try.underlying24 rfl sizeMask ?_
    refine flow_row _ rfl rfl (fun v w8 h8 => by simpa [tput, frameW, Act.eval] using h8) P1.out Try.underlying24 rfl sizeMask ?_
    refine flow_step (fun v _ => v = .agg #[.int .u64 (y1 : Int), .int .u64 (y2 : Int)]) rfl (fun _ _ _ h _ => h) ?_ ?_
    · intro ρ w8 hr hw hf
      have r2 := hr.func
      simp [Oper.looksAt, Op.operands, Call.operands, tput, frameW, Act.eval] at hf
      have CN := hide (c2 w8)
      clear P0 P1
      go_simp
      refine ⟨Below.refl _ _, (unhide CN).mono ?_⟩
      rintro e w7 ⟨rfl, hb7⟩
      exact ⟨_, rfl, hb7, rfl⟩
    refine flow_alloc zeroMask rfl rfl ?_
    refine flow_alloc zeroMask rfl rfl ?_
    refine flow_nil ?_
    intro f w8 hb8 hf hap
    have h8 := hf 8; simp [tput] at h8
    have h9 := hf 9; simp [tput] at h9
    obtain ⟨g8, e8, l8, q8⟩ := newW_mat h8
    obtain ⟨g9, e9, l9, q9⟩ := newW_mat h9
    have hne : g8 ≠ g9 := hap 8 (by simp) 9 (by simp) (by decide) _ _ e8 e9
    have hne' : g9 ≠ g8 := fun e => hne e.symm
    clear h8 h9 hap
    have f0 := hf 0; simp [tput, frameW, Act.eval] at f0
    have f1 := hf 1; simp [tput, frameW, Act.eval] at f1
    have f2 := hf 2; simp [tput, frameW, Act.eval] at f2
    have f3 := hf 3; simp [tput, frameW, Act.eval] at f3
    have f4 := hf 4; simp [tput, frameW, Act.eval] at f4
    have f5 := hf 5; simp [tput, frameW, Act.eval] at f5
    have f6 := hf 6; simp [tput, frameW, Act.eval] at f6
    have f7 := hf 7; simp [tput, frameW, Act.eval] at f7
    have f10 := hf 10; simp [tput, frameW, Act.eval] at f10
    have f11 := hf 11; simp [tput, frameW, Act.eval] at f11
    have f12 := hf 12; simp [tput, frameW, Act.eval] at f12
    have f13 := hf 13; simp [tput, frameW, Act.eval] at f13
    have f14 := hf 14; simp [tput, frameW, Act.eval] at f14
    have f15 := hf 15; simp [tput, frameW, Act.eval] at f15
    have f16 := hf 16; simp [tput, frameW, Act.eval] at f16
    have f17 := hf 17; simp [tput, frameW, Act.eval] at f17
    have f18 := hf 18; simp [tput, frameW, Act.eval] at f18
    have f19 := hf 19; simp [tput, frameW, Act.eval] at f19
    have f20 := hf 20; simp [tput, frameW, Act.eval] at f20
    have f21 := hf 21; simp [tput, frameW, Act.eval] at f21
    have f22 := hf 22; simp [tput, frameW, Act.eval] at f22
    have f23 := hf 23; simp [tput, frameW, Act.eval] at f23
    have f24 := hf 24; simp [tput, frameW, Act.eval] at f24
    have f25 := hf 25; simp [tput, frameW, Act.eval] at f25
    have f26 := hf 26; simp [tput, frameW, Act.eval] at f26
    have f27 := hf 27; simp [tput, frameW, Act.eval] at f27
    have f28 := hf 28; simp [tput, frameW, Act.eval] at f28
    have f29 := hf 29; simp [tput, frameW, Act.eval] at f29
    have f32 := hf 32; simp [tput, frameW, Act.eval] at f32
    have f35 := hf 35; simp [tput, frameW, Act.eval] at f35
    rw [show frameOf f _ _ = ⟨#[f 0, f 1, f 2, f 3, f 4, f 5, f 6, f 7, f 8, f 9, f 10, f 11, f 12, f 13, f 14, f 15, f 16, f 17, f 18, f 19, f 20, f 21, f 22, f 23, f 24, f 25, f 26, f 27, f 28, f 29, f 30, f 31, f 32, f 33, f 34, f 35, f 36, f 37, f 38, f 39, f 40, f 41, f 42, f 43, f 44, f 45, f 46, f 47, f 48, f 49, f 50, f 51, f 52, f 53, f 54, f 55, f 56, f 57, f 58, f 59, f 60], []⟩ from rfl, f0, f1, f2, f3, f4, f6, f7, f10, f11, f12, f13, f14, f15, f16, f17, f18, f19, f20, f21, f22, f23, f24, f25, f26, f27, f28, f29, f32, f35, e8, e9]
    have b6 := hb5.trans (hb8.mono hb5.size)
    have a0 := P0.out.later hb8
    have s0 := hb5.size
    have s1 := hb8.size
    have s2 := a0.lt
    have d0 := q8.c0
    have d1 := q8.c1
    have d2 := q8.fz 0
    have d3 := q8.fz 1
    have d4 := q9.c0
    have d5 := q9.c1
    have d6 := q9.fz 0
    have d7 := q9.fz 1
    have u8 := (q8.set_ x1 x2)
    have u9 := ((q9.other (a := ⟨g8, 0, none⟩) (.int .u64 (x1 : Int)) hne').other (a := ⟨g8, 1, none⟩) (.int .u64 (x2 : Int)) hne').set_ y1 y2
    have u8' := (u8.other (a := ⟨g9, 0, none⟩) (.int .u64 (y1 : Int)) hne).other (a := ⟨g9, 1, none⟩) (.int .u64 (y2 : Int)) hne
    have u0 := (((a0.other (a := ⟨g8, 0, none⟩) (.int .u64 (x1 : Int)) (by have := P0.out.lt; show w.heap.size ≠ g8; omega)).other (a := ⟨g8, 1, none⟩) (.int .u64 (x2 : Int)) (by have := P0.out.lt; show w.heap.size ≠ g8; omega)).other (a := ⟨g9, 0, none⟩) (.int .u64 (y1 : Int)) (by have := P0.out.lt; show w.heap.size ≠ g9; omega)).other (a := ⟨g9, 1, none⟩) (.int .u64 (y2 : Int)) (by have := P0.out.lt; show w.heap.size ≠ g9; omega)
    have b7 := (((b6.setCell (p := ⟨g8, 0, none⟩) (by show w.heap.size ≤ g8; omega) (.int .u64 (x1 : Int))).setCell (p := ⟨g8, 1, none⟩) (by show w.heap.size ≤ g8; omega) (.int .u64 (x2 : Int))).setCell (p := ⟨g9, 0, none⟩) (by show w.heap.size ≤ g9; omega) (.int .u64 (y1 : Int))).setCell (p := ⟨g9, 1, none⟩) (by show w.heap.size ≤ g9; omega) (.int .u64 (y2 : Int))
    have U0 := hide u0
    have U8 := hide u8'
    have U9 := hide u9
    have B7 := hide b7
    clear hf u8 u9 u8' u0 b7 b6 a0 q8 q9 P0 P1 hb8 hb5 s0 s1 s2 c1 c2
    go_wp2_with fail
    replace U0 := U0.out
    replace U8 := U8.out
    replace U9 := U9.out
    replace B7 := B7.out
    generalize ((((w8.setCell ⟨g8, 0, none⟩ (.int .u64 (x1 : Int))).setCell ⟨g8, 1, none⟩ (.int .u64 (x2 : Int))).setCell ⟨g9, 0, none⟩ (.int .u64 (y1 : Int))).setCell ⟨g9, 1, none⟩ (.int .u64 (y2 : Int))) = w7 at *
    have g0 := Later.cell U0.c0
    have g1 := Later.cell U0.c1
    have g2 := Later.cell U8.c0
    have g3 := Later.cell U8.c1
    have g4 := Later.cell U9.c0
    have g5 := Later.cell U9.c1
    refine wp_region_calm (by kernel_rfl) (by kernel_rfl) ?_
    have k3 := fun x : Later w7 => calm_of (c3 x.w)
    have k4 := fun x : Later w7 => calm_of (c4 x.w)
    have k5 := fun x : Later w7 => calm_of (c5 x.w)
    have k6 := fun x : Later w7 => calm_of (c6 x.w)
    have k7 := fun x : Later w7 => calm_of (c7 x.w)
    have k8 := fun x : Later w7 => calm_of (awake5_any x.w)
    clear c3 c4 c5 c6 c7
    repeat (go_big_quiet_step (first | (go_at_call 25; with_reducible exact k3 _) | (go_at_call 21; with_reducible exact k4 _) | (go_at_call 17; first | with_reducible exact k5 _ | with_reducible exact k6 _ | with_reducible exact k7 _) | (go_at_call 15; with_reducible exact k8 _)))
    refine wpQuiet_nil ?_
    rintro _ ⟨x9, rfl⟩
    have hb9 := x9.below
    generalize x9.w = w9 at hb9 ⊢
    go_wp2
    go_ret
    exact ⟨rfl, B7.trans (hb9.mono B7.size)⟩
set_option maxRecDepth 100000 in
theorem walk1 (a b c d : Nat) (n : Int) (w : World) (ha : a < 18446744073709551616) (hb : b < 18446744073709551616) (hc : c < 18446744073709551616) (hd : d < 18446744073709551616) (hn : (Lit.int .u8 n).wf = true) (hp : true = bitM a b (n % 128).toNat) :
    Calls Try.prog 7 #[.agg #[.int .u64 (a : Int), .int .u64 (b : Int)], .agg #[.int .u64 (c : Int), .int .u64 (d : Int)], .int .u8 n] w fun e w' => e = .returned (.bool true) ∧ Below w.heap.size w w' := by
  have hn' := wf_u8 hn
  clear hn
  obtain ⟨m, rfl⟩ := Int.eq_ofNat_of_zero_le hn'.1
  obtain ⟨k, hk⟩ : ∃ k, k = m % 128 := ⟨_, rfl⟩
  rw [show ((m : Int) % 128).toNat = k from by omega] at hp
  have hk128 : k < 128 := by omega
  have e1 : (m : Int) % 128 = (k : Int) := by omega
  clear hk hn'
  have ch := fun W => has_any a b k W ha hb hk128
  obtain ⟨w2, hw2⟩ : ∃ w2, w2 = (w.alloc (.cells #[.int .u64 (a : Int), .int .u64 (b : Int)] 24)).alloc (.cells #[.int .u64 (c : Int), .int .u64 (d : Int)] 24) := ⟨_, rfl⟩
  have m0 : MAt w2 w.heap.size a b := by rw [hw2]; exact (MAt.mk_ w a b).alloc _
  have m1 : MAt w2 (w.heap.size + 1) c d := by rw [hw2]; have := MAt.mk_ (w.alloc (.cells #[.int .u64 (a : Int), .int .u64 (b : Int)] 24)) c d; simpa only [World.size_alloc] using this
  have hb0 : Below w.heap.size w w2 := by rw [hw2]; exact ((Below.refl _ _).alloc (Nat.le_refl _) _).alloc (by simp) _
  have hq0 := mask_self a b ha hb
  have hq1 : ∀ w, (Op.equalIn 10000 24 (.agg #[.int .u64 0, .int .u64 0]) (.agg #[.int .u64 0, .int .u64 0])).run Try.prog w = .ok true w := mask_self 0 0 (by decide) (by decide)
  rw [← hp] at ch
  have HP := hide hp
  clear hp
  -- the second half: what is in both, and what is in the first one alone
  have c1 := fun W => mand_any a b c d W ha hb hc hd
  have c2 := fun W => mminus_any a b c d W ha hb hc hd
  have lx1 := and_lt64 c ha
  have lx2 := and_lt64 d hb
  have ly1 := and_lt64 (18446744073709551615 - c) ha
  have ly2 := and_lt64 (18446744073709551615 - d) hb
  have c3 := fun W => mor_any (a &&& c) (b &&& d) (a &&& (18446744073709551615 - c)) (b &&& (18446744073709551615 - d)) W lx1 lx2 ly1 ly2
  have c4 := fun W => mand_any (a &&& c) (b &&& d) (a &&& (18446744073709551615 - c)) (b &&& (18446744073709551615 - d)) W lx1 lx2 ly1 ly2
  have hor := mask_ext (or_lt64 lx1 ly1) (or_lt64 lx2 ly2) ha hb (fun i hi => by
    rw [or_bit, and_bit, minus_bit a b c d i hc hd hi]
    cases bitM a b i <;> cases bitM c d i <;> rfl)
  have hand := mask_ext (c := 0) (d := 0) (and_lt64 (a &&& (18446744073709551615 - c)) lx1) (and_lt64 (b &&& (18446744073709551615 - d)) lx2) (by decide) (by decide) (fun i hi => by
    rw [and_bit, and_bit, minus_bit a b c d i hc hd hi, zero_bit]
    cases bitM a b i <;> cases bitM c d i <;> rfl)
  have hsum : popM (a &&& c) (b &&& d) + popM (a &&& (18446744073709551615 - c)) (b &&& (18446744073709551615 - d)) = popM a b := by
    unfold popM
    rw [cnt_congr (p := bitM (a &&& c) (b &&& d)) (q := fun i => bitM a b i && bitM c d i) (fun i hi => and_bit a b c d i), cnt_congr (p := bitM (a &&& (18446744073709551615 - c)) (b &&& (18446744073709551615 - d))) (q := fun i => bitM a b i && !bitM c d i) (fun i hi => minus_bit a b c d i hc hd hi)]
    exact cnt_split _ _ _
  rw [hor.1, hor.2] at c3
  rw [hand.1, hand.2] at c4
  have c5 := fun W => count_any (a &&& c) (b &&& d) W lx1 lx2
  have c6 := fun W => count_any (a &&& (18446744073709551615 - c)) (b &&& (18446744073709551615 - d)) W ly1 ly2
  have c7 := fun W => count_any a b W ha hb
  have hs7 := popM_le a b
  have hs5 := popM_le (a &&& c) (b &&& d)
  have hs6 := popM_le (a &&& (18446744073709551615 - c)) (b &&& (18446744073709551615 - d))
  clear lx1 lx2 ly1 ly2 hor hand
  generalize popM (a &&& c) (b &&& d) = t1 at *
  generalize popM (a &&& (18446744073709551615 - c)) (b &&& (18446744073709551615 - d)) = t2 at *
  generalize popM a b = t3 at *
  generalize a &&& c = x1 at *
  generalize b &&& d = x2 at *
  generalize a &&& (18446744073709551615 - c) = y1 at *
  generalize b &&& (18446744073709551615 - d) = y2 at *
  have heq : ((t1 : Int) + (t2 : Int) == (t3 : Int)) = true := by simp; omega
  clear hsum
  · have cw := fun W => wout_any a b k W ha hb hk128
    have cx := fun W => with_any (cutA a k) (cutB b k) k W (cutA_lt ha) (cutB_lt hb) hk128
    have hx := mask_ext (a := putA (cutA a k) k) (b := putB (cutB b k) k) (c := a) (d := b) (putA_lt (cutA_lt ha)) (putB_lt (cutB_lt hb) hk128) ha hb (fun i hi => by
      rw [put_bit _ _ _ _ hk128 hi, cut_bit _ _ _ _ hk128 hi]
      by_cases h : i = k
      · subst h; rw [← HP.out]; simp
      · simp [h])
    rw [hx.1, hx.2] at cx
    clear hx HP
    generalize cutA a k = z1 at *
    generalize cutB b k = z2 at *
    go_enter Try.func7, Try.ntmps7
    go_wp2_with fail
    rw [← hw2]
    refine (ch _).mono ?_
    rintro e w3 ⟨rfl, hbx⟩
    have n0 := m0.later hbx
    have n1 := m1.later hbx
    have hb3 := hb0.trans (hbx.mono hb0.size)
    clear hbx hb0 m0 m1 hw2 ch
    have g0 := Later.cell n0.c0
    have g1 := Later.cell n0.c1
    go_wp2_with fail
    refine wp_region_calm (by kernel_rfl) (by kernel_rfl) ?_
    have k1 := fun x : Later w3 => calm_of (cw x.w)
    have k2 := fun x : Later w3 => calm_of (cx x.w)
    repeat (go_big_quiet_step (first | (go_at_call 14; with_reducible exact k1 _) | (go_at_call 12; with_reducible exact k2 _)))
    refine wpQuiet_nil ?_
    rintro _ ⟨x9, rfl⟩
    have hb9 := x9.below
    generalize x9.w = w9 at hb9 ⊢
    go_wp2_with fail
    have hb5 := hb3.trans (hb9.mono hb3.size)
    have p0 := n0.later hb9
    have p1 := n1.later hb9
    clear hb3 hb9 n0 n1 k1 k2 cw cx g0 g1
    have P0 := hide p0
    have P1 := hide p1
    clear p0 p1
    refine wp_region_flow_apart 8 [8, 9] (by kernel_rfl) (by kernel_rfl) (by kernel_rfl) (makers_of zeroMask (by kernel_rfl)) ⟨?_, ?_⟩ ?_
    · intro s hs p hp
      simp only [List.mem_cons, List.mem_nil_iff, or_false] at hs
      rcases hs with rfl | rfl <;> (simp [Act.eval] at hp; cases hp)
    · intro s hs t ht hst p q hp hq
      simp only [List.mem_cons, List.mem_nil_iff, or_false] at hs
      rcases hs with rfl | rfl <;> (simp [Act.eval] at hp; cases hp)
    simp only [List.take_succ_cons, List.take_zero, List.drop_succ_cons, List.drop_zero]
    refine flow_row _ rfl rfl (fun v w8 h8 => by simpa [tput, frameW, Act.eval] using h8) P0.out Try.underlying24 rfl sizeMask ?_
    refine flow_row _ rfl rfl (fun v w8 h8 => by simpa [tput, frameW, Act.eval] using h8) P1.out Try.underlying24 rfl sizeMask ?_
    refine flow_step (fun v _ => v = .agg #[.int .u64 (x1 : Int), .int .u64 (x2 : Int)]) rfl (fun _ _ _ h _ => h) ?_ ?_
    · intro ρ w8 hr hw hf
      have r2 := hr.func
      simp [Oper.looksAt, Op.operands, Call.operands, tput, frameW, Act.eval] at hf
      have CN := hide (c1 w8)
      clear P0 P1
      go_simp
      refine ⟨Below.refl _ _, (unhide CN).mono ?_⟩
      rintro e w7 ⟨rfl, hb7⟩
      exact ⟨_, rfl, hb7, rfl⟩
    refine flow_row _ rfl rfl (fun v w8 h8 => by simpa [tput, frameW, Act.eval] using h8) P0.out Try.underlying24 rfl sizeMask ?_
    refine flow_row _ rfl rfl (fun v w8 h8 => by simpa [tput, frameW, Act.eval] using h8) P1.out Try.underlying24 rfl sizeMask ?_
    refine flow_step (fun v _ => v = .agg #[.int .u64 (y1 : Int), .int .u64 (y2 : Int)]) rfl (fun _ _ _ h _ => h) ?_ ?_
    · intro ρ w8 hr hw hf
      have r2 := hr.func
      simp [Oper.looksAt, Op.operands, Call.operands, tput, frameW, Act.eval] at hf
      have CN := hide (c2 w8)
      clear P0 P1
      go_simp
      refine ⟨Below.refl _ _, (unhide CN).mono ?_⟩
      rintro e w7 ⟨rfl, hb7⟩
      exact ⟨_, rfl, hb7, rfl⟩
    refine flow_alloc zeroMask rfl rfl ?_
    refine flow_alloc zeroMask rfl rfl ?_
    refine flow_nil ?_
    intro f w8 hb8 hf hap
    have h8 := hf 8; simp [tput] at h8
    have h9 := hf 9; simp [tput] at h9
    obtain ⟨g8, e8, l8, q8⟩ := newW_mat h8
    obtain ⟨g9, e9, l9, q9⟩ := newW_mat h9
    have hne : g8 ≠ g9 := hap 8 (by simp) 9 (by simp) (by decide) _ _ e8 e9
    have hne' : g9 ≠ g8 := fun e => hne e.symm
    clear h8 h9 hap
    have f0 := hf 0; simp [tput, frameW, Act.eval] at f0
    have f1 := hf 1; simp [tput, frameW, Act.eval] at f1
    have f2 := hf 2; simp [tput, frameW, Act.eval] at f2
    have f3 := hf 3; simp [tput, frameW, Act.eval] at f3
    have f4 := hf 4; simp [tput, frameW, Act.eval] at f4
    have f5 := hf 5; simp [tput, frameW, Act.eval] at f5
    have f6 := hf 6; simp [tput, frameW, Act.eval] at f6
    have f7 := hf 7; simp [tput, frameW, Act.eval] at f7
    have f10 := hf 10; simp [tput, frameW, Act.eval] at f10
    have f11 := hf 11; simp [tput, frameW, Act.eval] at f11
    have f12 := hf 12; simp [tput, frameW, Act.eval] at f12
    have f13 := hf 13; simp [tput, frameW, Act.eval] at f13
    have f14 := hf 14; simp [tput, frameW, Act.eval] at f14
    have f15 := hf 15; simp [tput, frameW, Act.eval] at f15
    have f16 := hf 16; simp [tput, frameW, Act.eval] at f16
    have f17 := hf 17; simp [tput, frameW, Act.eval] at f17
    have f18 := hf 18; simp [tput, frameW, Act.eval] at f18
    have f19 := hf 19; simp [tput, frameW, Act.eval] at f19
    have f20 := hf 20; simp [tput, frameW, Act.eval] at f20
    have f21 := hf 21; simp [tput, frameW, Act.eval] at f21
    have f22 := hf 22; simp [tput, frameW, Act.eval] at f22
    have f23 := hf 23; simp [tput, frameW, Act.eval] at f23
    have f24 := hf 24; simp [tput, frameW, Act.eval] at f24
    have f25 := hf 25; simp [tput, frameW, Act.eval] at f25
    have f26 := hf 26; simp [tput, frameW, Act.eval] at f26
    have f27 := hf 27; simp [tput, frameW, Act.eval] at f27
    have f28 := hf 28; simp [tput, frameW, Act.eval] at f28
    have f29 := hf 29; simp [tput, frameW, Act.eval] at f29
    have f32 := hf 32; simp [tput, frameW, Act.eval] at f32
    have f35 := hf 35; simp [tput, frameW, Act.eval] at f35
    rw [show frameOf f _ _ = ⟨#[f 0, f 1, f 2, f 3, f 4, f 5, f 6, f 7, f 8, f 9, f 10, f 11, f 12, f 13, f 14, f 15, f 16, f 17, f 18, f 19, f 20, f 21, f 22, f 23, f 24, f 25, f 26, f 27, f 28, f 29, f 30, f 31, f 32, f 33, f 34, f 35, f 36, f 37, f 38, f 39, f 40, f 41, f 42, f 43, f 44, f 45, f 46, f 47, f 48, f 49, f 50, f 51, f 52, f 53, f 54, f 55, f 56, f 57, f 58, f 59, f 60], []⟩ from rfl, f0, f1, f2, f3, f4, f6, f7, f10, f11, f12, f13, f14, f15, f16, f17, f18, f19, f20, f21, f22, f23, f24, f25, f26, f27, f28, f29, f32, f35, e8, e9]
    have b6 := hb5.trans (hb8.mono hb5.size)
    have a0 := P0.out.later hb8
    have s0 := hb5.size
    have s1 := hb8.size
    have s2 := a0.lt
    have d0 := q8.c0
    have d1 := q8.c1
    have d2 := q8.fz 0
    have d3 := q8.fz 1
    have d4 := q9.c0
    have d5 := q9.c1
    have d6 := q9.fz 0
    have d7 := q9.fz 1
    have u8 := (q8.set_ x1 x2)
    have u9 := ((q9.other (a := ⟨g8, 0, none⟩) (.int .u64 (x1 : Int)) hne').other (a := ⟨g8, 1, none⟩) (.int .u64 (x2 : Int)) hne').set_ y1 y2
    have u8' := (u8.other (a := ⟨g9, 0, none⟩) (.int .u64 (y1 : Int)) hne).other (a := ⟨g9, 1, none⟩) (.int .u64 (y2 : Int)) hne
    have u0 := (((a0.other (a := ⟨g8, 0, none⟩) (.int .u64 (x1 : Int)) (by have := P0.out.lt; show w.heap.size ≠ g8; omega)).other (a := ⟨g8, 1, none⟩) (.int .u64 (x2 : Int)) (by have := P0.out.lt; show w.heap.size ≠ g8; omega)).other (a := ⟨g9, 0, none⟩) (.int .u64 (y1 : Int)) (by have := P0.out.lt; show w.heap.size ≠ g9; omega)).other (a := ⟨g9, 1, none⟩) (.int .u64 (y2 : Int)) (by have := P0.out.lt; show w.heap.size ≠ g9; omega)
    have b7 := (((b6.setCell (p := ⟨g8, 0, none⟩) (by show w.heap.size ≤ g8; omega) (.int .u64 (x1 : Int))).setCell (p := ⟨g8, 1, none⟩) (by show w.heap.size ≤ g8; omega) (.int .u64 (x2 : Int))).setCell (p := ⟨g9, 0, none⟩) (by show w.heap.size ≤ g9; omega) (.int .u64 (y1 : Int))).setCell (p := ⟨g9, 1, none⟩) (by show w.heap.size ≤ g9; omega) (.int .u64 (y2 : Int))
    have U0 := hide u0
    have U8 := hide u8'
    have U9 := hide u9
    have B7 := hide b7
    clear hf u8 u9 u8' u0 b7 b6 a0 q8 q9 P0 P1 hb8 hb5 s0 s1 s2 c1 c2
    go_wp2_with fail
    replace U0 := U0.out
    replace U8 := U8.out
    replace U9 := U9.out
    replace B7 := B7.out
    generalize ((((w8.setCell ⟨g8, 0, none⟩ (.int .u64 (x1 : Int))).setCell ⟨g8, 1, none⟩ (.int .u64 (x2 : Int))).setCell ⟨g9, 0, none⟩ (.int .u64 (y1 : Int))).setCell ⟨g9, 1, none⟩ (.int .u64 (y2 : Int))) = w7 at *
    have g0 := Later.cell U0.c0
    have g1 := Later.cell U0.c1
    have g2 := Later.cell U8.c0
    have g3 := Later.cell U8.c1
    have g4 := Later.cell U9.c0
    have g5 := Later.cell U9.c1
    refine wp_region_calm (by kernel_rfl) (by kernel_rfl) ?_
    have k3 := fun x : Later w7 => calm_of (c3 x.w)
    have k4 := fun x : Later w7 => calm_of (c4 x.w)
    have k5 := fun x : Later w7 => calm_of (c5 x.w)
    have k6 := fun x : Later w7 => calm_of (c6 x.w)
    have k7 := fun x : Later w7 => calm_of (c7 x.w)
    have k8 := fun x : Later w7 => calm_of (awake5_any x.w)
    clear c3 c4 c5 c6 c7
    repeat (go_big_quiet_step (first | (go_at_call 25; with_reducible exact k3 _) | (go_at_call 21; with_reducible exact k4 _) | (go_at_call 17; first | with_reducible exact k5 _ | with_reducible exact k6 _ | with_reducible exact k7 _) | (go_at_call 15; with_reducible exact k8 _)))
    refine wpQuiet_nil ?_
    rintro _ ⟨x9, rfl⟩
    have hb9 := x9.below
    generalize x9.w = w9 at hb9 ⊢
    go_wp2
    go_ret
    exact ⟨rfl, B7.trans (hb9.mono B7.size)⟩
set_option maxRecDepth 100000 in
theorem walk (a b c d : Nat) (n : Int) (w : World) (ha : a < 18446744073709551616) (hb : b < 18446744073709551616) (hc : c < 18446744073709551616) (hd : d < 18446744073709551616) (hn : (Lit.int .u8 n).wf = true) :
    Calls Try.prog 7 #[.agg #[.int .u64 (a : Int), .int .u64 (b : Int)], .agg #[.int .u64 (c : Int), .int .u64 (d : Int)], .int .u8 n] w fun e w' => e = .returned (.bool true) ∧ Below w.heap.size w w' := by
  obtain ⟨p, hp⟩ : ∃ p, p = bitM a b (n % 128).toNat := ⟨_, rfl⟩
  cases p
  · exact walk0 a b c d n w ha hb hc hd hn hp
  · exact walk1 a b c d n w ha hb hc hd hn hp

/-! ### THE ROW's STEP -/
set_option maxRecDepth 100000 in
theorem lifted (os : Os) (started : os.Started) (H : Type) (enc : TypeId × Value → H) :
    ReturnsInHanded {} Try.checked os 7 .any (Rows.maskFlipsSpec.pre6 enc Try.prog Try.f7 Rows.maskFlipsRow.domain false) (Rows.maskFlipsSpec.post enc Try.prog Try.f7 false true false false) := by
  refine returnsInHanded_of_change (C := Try.checked) own started (by kernel_rfl) Try.func7
    (ChangeSpec.witness6 (enc := enc) (C := Try.checked) false ⟨#[], #[.agg #[.int .u64 0, .int .u64 0], .agg #[.int .u64 0, .int .u64 0], .int .u8 0], []⟩ 8 (by kernel_rfl) (by kernel_rfl) (by kernel_rfl) (by kernel_rfl)) ?_
  intro W base args ds gs before hval0 hW hcnd _
  have hval : ∀ (j : Nat) t v, Try.f7.params[j]? = some t → args[j]? = some v → Value.okWide Try.prog W .any base t v := hval0
  have hW' := hW
  obtain ⟨p, q, hA0, hV, rfl, hfz, hnd⟩ := hW
  have hA : DataW.TrodAll enc Try.prog W 0 (fun _ => true) true Try.f7.params.toList args.toList ds p := hA0
  rw [Try.params7] at hA hval
  obtain ⟨v0, vs0, d0, ds0, p0, q0, hargs, rfl, rfl, h0, r0⟩ := trodAll_cons hA
  obtain ⟨v1, vs1, d1, ds1, p1, q1, rfl, rfl, rfl, h1, r1⟩ := trodAll_cons r0
  obtain ⟨v2, vs2, d2, ds2, p2, q2, rfl, rfl, rfl, h2, r2⟩ := trodAll_cons r1
  obtain ⟨rfl, rfl, rfl⟩ := trodAll_nil r2
  obtain rfl : args = #[v0, v1, v2] := by cases args; simp_all
  obtain ⟨rfl, rfl⟩ := trodVars_none hV
  have k0 := h0
  have lt0 : ∀ x ∈ p0, x.block < W.heap.size := by obtain ⟨m, hm⟩ := k0; exact DataW.trod_lt m _ _ _ hm
  obtain ⟨x0, y0, rfl, hx0, hy0⟩ := open_mask (hval 0 24 v0 rfl rfl) h0
  have k1 := h1
  have lt1 : ∀ x ∈ p1, x.block < W.heap.size := by obtain ⟨m, hm⟩ := k1; exact DataW.trod_lt m _ _ _ hm
  obtain ⟨x1, y1, rfl, hx1, hy1⟩ := open_mask (hval 1 24 v1 rfl rfl) h1
  have k2 := h2
  have lt2 : ∀ x ∈ p2, x.block < W.heap.size := by obtain ⟨m, hm⟩ := k2; exact DataW.trod_lt m _ _ _ hm
  obtain ⟨a2, rfl, rfl, rfl, w2⟩ := open_int Try.underlying5 (hval 2 5 v2 rfl rfl) h2
  clear hA0 hval0
  refine (walk x0 y0 x1 y1 a2 W hx0 hy0 hx1 hy1 w2).mono fun e W' ⟨he, bel⟩ => ?_
  subst he
  exact ⟨_, rfl, _, _, _, [], _, [], hW', trodAll_mk1 (shut_bool Try.underlying4 _), (trodAll_cons_mk (Below.trod laidOut (by kernel_rfl) (of_decide_eq_true (by kernel_rfl)) k0 bel lt0) (trodAll_cons_mk (Below.trod laidOut (by kernel_rfl) (of_decide_eq_true (by kernel_rfl)) k1 bel lt1) (trodAll_cons_mk (Below.trod laidOut (by kernel_rfl) (of_decide_eq_true (by kernel_rfl)) k2 bel lt2) trodAll_mk0))), rfl, bel.frame _, fun h => by cases h⟩

theorem over : Rows.maskFlipsRow.holds Try.pinned (OpenSpec.ofChange Rows.maskFlipsSpec) :=
  OpenClaim.holds_of_wide 7 Try.f7 rfl rfl rfl rfl rfl rfl rfl ⟨rfl, rfl, rfl, rfl, rfl⟩ rfl rfl rfl rfl rfl (by kernel_rfl) Try.func7 (by kernel_rfl)
    (of_decide_eq_true (by kernel_rfl)) (by unfold Func.isWrapper; first | (rw [if_pos (by decide +kernel)]; kernel_rfl) | (rw [if_neg (by decide +kernel)]; exact ⟨rfl, rfl⟩))
    (fun os started H enc _ => lifted os started H enc)

theorem proved : Rows.MaskFlipsSaid := over
#print axioms proved
end Go.Proofs.Ytnaegaeicdknbaa.maskFlips
