/-
  The law choraguslaw05.MaskRanks answers true, and does not panic, for every argument that its row allows. Conditions: none but the row's own.
-/
import Derived.Test.YtnaegaeicdknbaaRows
import Derived.WalkKit
import Derived.ProofKit
import Derived.OpenShut
import Derived.ShutString
import Derived.ChangeOld
import Derived.Below
import Derived.Test.YtnaegaeicdknbaaOpen
import Derived.Test.YtnaegaeicdknbaaOpenM
import Derived.Test.YtnaegaeicdknbaaMask5
import Derived.Test.YtnaegaeicdknbaaMaskF
import Derived.Test.YtnaegaeicdknbaaPick
namespace Go.Proofs.Ytnaegaeicdknbaa.maskRanks
open Go.ChangeShapes Go.WideShapes Go.ChangeAt Go.RowKit
open Go.ChangeMaps (open_string shut_string)
set_option linter.unusedVariables false
set_option linter.unusedSimpArgs false

set_option maxRecDepth 100000 in
theorem walk01 (a b : Nat) (rank : Int) (r : Nat) (w : World) (ha : a < 18446744073709551616) (hb : b < 18446744073709551616) (hx : rank = (r : Int)) (hr : r < 128) :
    Calls Try.prog 3 #[.agg #[.int .u64 (a : Int), .int .u64 (b : Int)], .int .i64 rank, .bool false] w fun e w' => e = .returned (.bool true) ∧ Below w.heap.size w w' := by
  subst hx
  have ch := fun W => has_any a b r W ha hb hr
  have cs := fun W => rset_any a b r W ha hb hr
  have cw := fun W => with_any a b r W ha hb hr
  have cx := fun W => wout_any a b r W ha hb hr
  have cf := fun W => rof_any (fun j => if j = r then true else bitM a b j) W
  have cg := fun W => rof_any (fun j => if j = r then false else bitM a b j) W
  have e1 := laid_is a b r true (putA a r) (putB b r) (putA_lt ha) (putB_lt hb hr) (fun i hi => by
    rw [put_bit a b r i hr hi]
    by_cases e : i = r
    · subst e; simp
    · simp [e])
  have e2 := laid_is a b r false (cutA a r) (cutB b r) (cutA_lt ha) (cutB_lt hb) (fun i hi => by
    rw [cut_bit a b r i hr hi]
    by_cases e : i = r
    · subst e; simp
    · simp [e])
  rw [e1.1, e1.2] at cf
  rw [e2.1, e2.2] at cg
  clear e1 e2
  obtain ⟨ff, hff⟩ : ∃ ff : Nat → Bool, ff = fun j => if j = r then true else bitM a b j := ⟨_, rfl⟩
  obtain ⟨gg, hgg⟩ : ∃ gg : Nat → Bool, gg = fun j => if j = r then false else bitM a b j := ⟨_, rfl⟩
  rw [← hff] at cf
  rw [← hgg] at cg
  have hq1 := mask_self (putA a r) (putB b r) (putA_lt ha) (putB_lt hb hr)
  have hq2 := mask_self (cutA a r) (cutB b r) (cutA_lt ha) (cutB_lt hb)
  generalize putA a r = A1 at *
  generalize putB b r = A2 at *
  generalize cutA a r = C1 at *
  generalize cutB b r = C2 at *
  obtain ⟨q, hq⟩ : ∃ q, q = bitM a b r := ⟨_, rfl⟩
  rw [← hq] at ch cs
  have HQ := hide hq
  clear hq
  have hqq : ∀ t : Bool, (t == t) = true := fun t => by simp
  have cl := fun W => rflags_any a b W ha hb
  obtain ⟨F, hF⟩ : ∃ F, F = flagsA (bitM a b) := ⟨_, rfl⟩
  rw [← hF] at cl
  obtain ⟨w1, hw1⟩ : ∃ w1, w1 = w.alloc (.cells #[.int .u64 (a : Int), .int .u64 (b : Int)] 24) := ⟨_, rfl⟩
  have m0 : MAt w1 w.heap.size a b := by rw [hw1]; exact MAt.mk_ w a b
  have hb0 : Below w.heap.size w w1 := by rw [hw1]; exact (Below.refl _ _).alloc (Nat.le_refl _) _
  go_enter Try.func3, Try.ntmps3
  go_wp2_with fail
  rw [← hw1]
  clear hw1
  have P0 := hide m0
  clear m0
  refine wp_region_flow_apart 6 [7, 8] (by kernel_rfl) (by kernel_rfl) (by kernel_rfl) (makers_of zeroFlagsO (by kernel_rfl)) ⟨?_, ?_⟩ ?_
  · intro s hs p hp
    simp only [List.mem_cons, List.mem_nil_iff, or_false] at hs
    rcases hs with rfl | rfl <;> (simp [Act.eval] at hp; cases hp)
  · intro s hs t ht hst p q hp hq
    simp only [List.mem_cons, List.mem_nil_iff, or_false] at hs
    rcases hs with rfl | rfl <;> (simp [Act.eval] at hp; cases hp)
  simp only [List.take_succ_cons, List.take_zero, List.drop_succ_cons, List.drop_zero]
  refine flow_row _ rfl rfl (fun v w8 h8 => by simpa [tput, frameW, Act.eval] using h8) P0.out Try.underlying24 rfl (by kernel_rfl) ?_
  refine flow_step (fun v _ => v = .agg F) rfl (fun _ _ _ h _ => h) ?_ ?_
  · intro ρ w8 hr8 hw hf
    have r2 := hr8.func
    simp [Oper.looksAt, Op.operands, Call.operands, tput, frameW, Act.eval] at hf
    have CN := hide (cl w8)
    clear P0 hF
    go_simp
    refine ⟨Below.refl _ _, (unhide CN).mono ?_⟩
    rintro e w7 ⟨rfl, hb7⟩
    exact ⟨_, rfl, hb7, rfl⟩
  refine flow_row _ rfl rfl (fun v w8 h8 => by simpa [tput, frameW, Act.eval] using h8) P0.out Try.underlying24 rfl (by kernel_rfl) ?_
  refine flow_step (fun v _ => v = .agg F) rfl (fun _ _ _ h _ => h) ?_ ?_
  · intro ρ w8 hr8 hw hf
    have r2 := hr8.func
    simp [Oper.looksAt, Op.operands, Call.operands, tput, frameW, Act.eval] at hf
    have CN := hide (cl w8)
    clear P0 hF
    go_simp
    refine ⟨Below.refl _ _, (unhide CN).mono ?_⟩
    rintro e w7 ⟨rfl, hb7⟩
    exact ⟨_, rfl, hb7, rfl⟩
  refine flow_alloc zeroFlagsO rfl rfl ?_
  refine flow_alloc zeroFlagsO rfl rfl ?_
  refine flow_nil ?_
  intro f w8 hb8 hf hap
  have h7 := hf 7; simp only [tput] at h7
  have h8 := hf 8; simp only [tput] at h8
  obtain ⟨g7, e7, l7, q7⟩ := newW_fat h7
  obtain ⟨g8, e8, l8, q8⟩ := newW_fat h8
  have hne : g7 ≠ g8 := hap 7 (by simp) 8 (by simp) (by decide) _ _ e7 e8
  have hne' : g8 ≠ g7 := fun e => hne e.symm
  clear h7 h8 hap
  have f0 := hf 0; simp [tput, frameW, Act.eval] at f0
  have f1 := hf 1; simp [tput, frameW, Act.eval] at f1
  have f2 := hf 2; simp [tput, frameW, Act.eval] at f2
  have f3 := hf 3; simp [tput, frameW, Act.eval] at f3
  have f4 := hf 4; simp [tput, frameW, Act.eval] at f4
  have f6 := hf 6; simp [tput, frameW, Act.eval] at f6
  have f9 := hf 9; simp [tput, frameW, Act.eval] at f9
  have f14 := hf 14; simp [tput, frameW, Act.eval] at f14
  have f16 := hf 16; simp [tput, frameW, Act.eval] at f16
  rw [show frameOf f _ _ = ⟨#[f 0, f 1, f 2, f 3, f 4, f 5, f 6, f 7, f 8, f 9, f 10, f 11, f 12, f 13, f 14, f 15, f 16, f 17, f 18, f 19, f 20, f 21, f 22, f 23, f 24, f 25, f 26, f 27, f 28, f 29, f 30, f 31, f 32, f 33, f 34, f 35, f 36, f 37, f 38, f 39, f 40, f 41, f 42, f 43, f 44, f 45, f 46, f 47, f 48, f 49, f 50, f 51, f 52], []⟩ from rfl, f0, f1, f2, f3, f4, f6, f9, f14, f16, e7, e8]
  have b6 := hb0.trans (hb8.mono hb0.size)
  have a0 := P0.out.later hb8
  have s0 := hb0.size
  have s1 := P0.out.lt
  have n7 : w.heap.size ≠ g7 := by omega
  have n8 : w.heap.size ≠ g8 := by omega
  have u7 := (q7.row (bitM a b)).rowO (flagsA (bitM a b)) hne
  have u8 := (q8.rowO (flagsA (bitM a b)) hne').row (bitM a b)
  have u0 := (a0.rowO (flagsA (bitM a b)) n7).rowO (flagsA (bitM a b)) n8
  have b7 := below_setRow (below_setRow b6 (show w.heap.size ≤ g7 by omega) (flagsA (bitM a b))) (show w.heap.size ≤ g8 by omega) (flagsA (bitM a b))
  have q8' := q8.rowO (flagsA (bitM a b)) hne'
  rw [← hF] at u7 u8 u0 b7 q8'
  have hFz : (Try.prog.info? 26).map (·.size) = some F.size := by rw [hF]; exact sizeFlags _
  have hF1 : (flagsA fun _ => false).size = F.size := by rw [hF, flagsA_size, flagsA_size]
  have hF2 : F.all (·.oneCell') = true := by rw [hF]; exact flagsA_one _
  have d0 := u7.cell hr
  have d1 := u7.fz r
  have d2 := u8.cell hr
  have d3 := u8.fz r
  have v7 := (u7.set_ hr true).other (a := ⟨g8, r, none⟩) (.bool false) hne
  have v8 := (u8.other (a := ⟨g7, r, none⟩) (.bool true) hne').set_ hr false
  have v0 := (u0.other (a := ⟨g7, r, none⟩) (.bool true) n7).other (a := ⟨g8, r, none⟩) (.bool false) n8
  have b9 := (b7.setCell (p := ⟨g7, r, none⟩) (show w.heap.size ≤ g7 by omega) (.bool true)).setCell (p := ⟨g8, r, none⟩) (show w.heap.size ≤ g8 by omega) (.bool false)
  rw [← HQ.out] at d0 d2
  replace v7 := v7.congr (q := ff) (fun i _ => by rw [hff])
  replace v8 := v8.congr (q := gg) (fun i _ => by rw [hgg])
  clear hff hgg
  generalize hW9 : (w8.setRow g7 F).setRow g8 F = W9 at *
  have V := hide (And.intro v0 (And.intro v7 (And.intro v8 b9)))
  have Z := hide (And.intro q7 (And.intro q8' (And.intro hFz (And.intro hF1 hF2))))
  clear hf v0 v7 v8 b9 u0 u7 u8 b7 b6 a0 q7 q8 q8' P0 hb8 hb0 s0 s1 n7 n8 hFz hF1 hF2 cl HQ
  refine wpList_store_row rfl 26 (.tmp 7) (.tmp 14) rfl g7 F rfl rfl _ _ Z.out.1 Z.out.2.2.1 Z.out.2.2.2.1 Z.out.2.2.2.2 ?_
  refine wpList_store_row rfl 26 (.tmp 8) (.tmp 16) rfl g8 F rfl rfl _ _ Z.out.2.1 Z.out.2.2.1 Z.out.2.2.2.1 Z.out.2.2.2.2 ?_
  rw [hW9]
  clear Z hW9 hF
  go_wp2_with fail
  obtain ⟨v0, v7, v8, b9⟩ := V.out
  generalize ((W9.setCell ⟨g7, r, none⟩ (.bool true)).setCell ⟨g8, r, none⟩ (.bool false)) = w7 at *
  clear V
  have g0 := Later.cell v0.c0
  have g1 := Later.cell v0.c1
  refine wp_region_calm (by kernel_rfl) (by kernel_rfl) ?_
  have k1 := fun x : Later w7 => calm_of (ch x.w)
  have k2 := fun x : Later w7 => calm_of (cs x.w)
  have k3 := fun x : Later w7 => calm_of (cw x.w)
  have k4 := fun x : Later w7 => calm_of (cx x.w)
  have k5 := fun x : Later w7 => calm_of (cf x.w)
  have k6 := fun x : Later w7 => calm_of (cg x.w)
  have k7 := fun x : Later w7 => calm_of (awake5_any x.w)
  have R7 := later_row v7
  have R8 := later_row v8
  have RR := hide (And.intro R7 R8)
  clear R7 R8 v0 v7 v8 ch cs cw cx cf cg
  repeat (first | (go_big_quiet_want; refine quiet_row 26 (.tmp 7) g7 _ rfl rfl RR.out.1 Try.underlying26 rfl (sizeFlags _) ?_; (try simp only [Act.put, List.setIfInBounds_toArray, List.set_cons_succ, List.set_cons_zero]); go_big_quiet_on) | (go_big_quiet_want; refine quiet_row 26 (.tmp 8) g8 _ rfl rfl RR.out.2 Try.underlying26 rfl (sizeFlags _) ?_; (try simp only [Act.put, List.setIfInBounds_toArray, List.set_cons_succ, List.set_cons_zero]); go_big_quiet_on) | go_big_quiet_step (first | (go_at_call 10; with_reducible exact k1 _) | (go_at_call 11; with_reducible exact k2 _) | (go_at_call 12; with_reducible exact k3 _) | (go_at_call 14; with_reducible exact k4 _) | (go_at_call 13; first | with_reducible exact k5 _ | with_reducible exact k6 _) | (go_at_call 15; with_reducible exact k7 _)))
  refine wpQuiet_nil ?_
  rintro _ ⟨x9, rfl⟩
  have hb9 := x9.below
  generalize x9.w = w9 at hb9 ⊢
  go_wp2
  go_ret
  exact ⟨rfl, b9.trans (hb9.mono b9.size)⟩
set_option maxRecDepth 100000 in
theorem walk00 (a b : Nat) (rank : Int) (x : Int) (w : World) (ha : a < 18446744073709551616) (hb : b < 18446744073709551616) (hx : rank = x) (hr : ¬ (0 ≤ x ∧ x < 128)) :
    Calls Try.prog 3 #[.agg #[.int .u64 (a : Int), .int .u64 (b : Int)], .int .i64 rank, .bool false] w fun e w' => e = .returned (.bool true) ∧ Below w.heap.size w w' := by
  subst hx
  have ch := fun W => has_no a b rank W hr
  have cs := fun W => rset_no a b rank W hr
  have cw := fun W => with_no a b rank W hr
  have cx := fun W => wout_no a b rank W hr
  have cf := fun W => rof_any (bitM a b) W
  have e1 := mask_of (p := bitM a b) ha hb (fun i _ => rfl)
  rw [e1.1, e1.2] at cf
  clear e1
  have hq1 := mask_self a b ha hb
  have hqq : ∀ t : Bool, (t == t) = true := fun t => by simp
  have cl := fun W => rflags_any a b W ha hb
  obtain ⟨F, hF⟩ : ∃ F, F = flagsA (bitM a b) := ⟨_, rfl⟩
  rw [← hF] at cl
  obtain ⟨w1, hw1⟩ : ∃ w1, w1 = w.alloc (.cells #[.int .u64 (a : Int), .int .u64 (b : Int)] 24) := ⟨_, rfl⟩
  have m0 : MAt w1 w.heap.size a b := by rw [hw1]; exact MAt.mk_ w a b
  have hb0 : Below w.heap.size w w1 := by rw [hw1]; exact (Below.refl _ _).alloc (Nat.le_refl _) _
  have hr1 : ¬ 0 ≤ rank ∨ ¬ rank < 128 := by omega
  go_enter Try.func3, Try.ntmps3
  go_wp2_with fail
  rw [← hw1]
  clear hw1
  have P0 := hide m0
  clear m0
  refine wp_region_flow_apart 6 [7, 8] (by kernel_rfl) (by kernel_rfl) (by kernel_rfl) (makers_of zeroFlagsO (by kernel_rfl)) ⟨?_, ?_⟩ ?_
  · intro s hs p hp
    simp only [List.mem_cons, List.mem_nil_iff, or_false] at hs
    rcases hs with rfl | rfl <;> (simp [Act.eval] at hp; cases hp)
  · intro s hs t ht hst p q hp hq
    simp only [List.mem_cons, List.mem_nil_iff, or_false] at hs
    rcases hs with rfl | rfl <;> (simp [Act.eval] at hp; cases hp)
  simp only [List.take_succ_cons, List.take_zero, List.drop_succ_cons, List.drop_zero]
  refine flow_row _ rfl rfl (fun v w8 h8 => by simpa [tput, frameW, Act.eval] using h8) P0.out Try.underlying24 rfl (by kernel_rfl) ?_
  refine flow_step (fun v _ => v = .agg F) rfl (fun _ _ _ h _ => h) ?_ ?_
  · intro ρ w8 hr8 hw hf
    have r2 := hr8.func
    simp [Oper.looksAt, Op.operands, Call.operands, tput, frameW, Act.eval] at hf
    have CN := hide (cl w8)
    clear P0 hF
    go_simp
    refine ⟨Below.refl _ _, (unhide CN).mono ?_⟩
    rintro e w7 ⟨rfl, hb7⟩
    exact ⟨_, rfl, hb7, rfl⟩
  refine flow_row _ rfl rfl (fun v w8 h8 => by simpa [tput, frameW, Act.eval] using h8) P0.out Try.underlying24 rfl (by kernel_rfl) ?_
  refine flow_step (fun v _ => v = .agg F) rfl (fun _ _ _ h _ => h) ?_ ?_
  · intro ρ w8 hr8 hw hf
    have r2 := hr8.func
    simp [Oper.looksAt, Op.operands, Call.operands, tput, frameW, Act.eval] at hf
    have CN := hide (cl w8)
    clear P0 hF
    go_simp
    refine ⟨Below.refl _ _, (unhide CN).mono ?_⟩
    rintro e w7 ⟨rfl, hb7⟩
    exact ⟨_, rfl, hb7, rfl⟩
  refine flow_alloc zeroFlagsO rfl rfl ?_
  refine flow_alloc zeroFlagsO rfl rfl ?_
  refine flow_nil ?_
  intro f w8 hb8 hf hap
  have h7 := hf 7; simp only [tput] at h7
  have h8 := hf 8; simp only [tput] at h8
  obtain ⟨g7, e7, l7, q7⟩ := newW_fat h7
  obtain ⟨g8, e8, l8, q8⟩ := newW_fat h8
  have hne : g7 ≠ g8 := hap 7 (by simp) 8 (by simp) (by decide) _ _ e7 e8
  have hne' : g8 ≠ g7 := fun e => hne e.symm
  clear h7 h8 hap
  have f0 := hf 0; simp [tput, frameW, Act.eval] at f0
  have f1 := hf 1; simp [tput, frameW, Act.eval] at f1
  have f2 := hf 2; simp [tput, frameW, Act.eval] at f2
  have f3 := hf 3; simp [tput, frameW, Act.eval] at f3
  have f4 := hf 4; simp [tput, frameW, Act.eval] at f4
  have f6 := hf 6; simp [tput, frameW, Act.eval] at f6
  have f9 := hf 9; simp [tput, frameW, Act.eval] at f9
  have f14 := hf 14; simp [tput, frameW, Act.eval] at f14
  have f16 := hf 16; simp [tput, frameW, Act.eval] at f16
  rw [show frameOf f _ _ = ⟨#[f 0, f 1, f 2, f 3, f 4, f 5, f 6, f 7, f 8, f 9, f 10, f 11, f 12, f 13, f 14, f 15, f 16, f 17, f 18, f 19, f 20, f 21, f 22, f 23, f 24, f 25, f 26, f 27, f 28, f 29, f 30, f 31, f 32, f 33, f 34, f 35, f 36, f 37, f 38, f 39, f 40, f 41, f 42, f 43, f 44, f 45, f 46, f 47, f 48, f 49, f 50, f 51, f 52], []⟩ from rfl, f0, f1, f2, f3, f4, f6, f9, f14, f16, e7, e8]
  have b6 := hb0.trans (hb8.mono hb0.size)
  have a0 := P0.out.later hb8
  have s0 := hb0.size
  have s1 := P0.out.lt
  have n7 : w.heap.size ≠ g7 := by omega
  have n8 : w.heap.size ≠ g8 := by omega
  have u7 := (q7.row (bitM a b)).rowO (flagsA (bitM a b)) hne
  have u8 := (q8.rowO (flagsA (bitM a b)) hne').row (bitM a b)
  have u0 := (a0.rowO (flagsA (bitM a b)) n7).rowO (flagsA (bitM a b)) n8
  have b7 := below_setRow (below_setRow b6 (show w.heap.size ≤ g7 by omega) (flagsA (bitM a b))) (show w.heap.size ≤ g8 by omega) (flagsA (bitM a b))
  have q8' := q8.rowO (flagsA (bitM a b)) hne'
  rw [← hF] at u7 u8 u0 b7 q8'
  have hFz : (Try.prog.info? 26).map (·.size) = some F.size := by rw [hF]; exact sizeFlags _
  have hF1 : (flagsA fun _ => false).size = F.size := by rw [hF, flagsA_size, flagsA_size]
  have hF2 : F.all (·.oneCell') = true := by rw [hF]; exact flagsA_one _
  generalize hW9 : (w8.setRow g7 F).setRow g8 F = W9 at *
  have V := hide (And.intro u0 (And.intro u7 (And.intro u8 b7)))
  have Z := hide (And.intro q7 (And.intro q8' (And.intro hFz (And.intro hF1 hF2))))
  clear hf u0 u7 u8 b7 b6 a0 q7 q8 q8' P0 hb8 hb0 s0 s1 n7 n8 hFz hF1 hF2 cl
  refine wpList_store_row rfl 26 (.tmp 7) (.tmp 14) rfl g7 F rfl rfl _ _ Z.out.1 Z.out.2.2.1 Z.out.2.2.2.1 Z.out.2.2.2.2 ?_
  refine wpList_store_row rfl 26 (.tmp 8) (.tmp 16) rfl g8 F rfl rfl _ _ Z.out.2.1 Z.out.2.2.1 Z.out.2.2.2.1 Z.out.2.2.2.2 ?_
  rw [hW9]
  clear Z hW9 hF
  rcases hr1 with hr1 | hr1
  · go_wp2_with fail
    obtain ⟨v0, v7, v8, b9⟩ := V.out
    generalize W9 = w7 at *
    clear V
    have g0 := Later.cell v0.c0
    have g1 := Later.cell v0.c1
    refine wp_region_calm (by kernel_rfl) (by kernel_rfl) ?_
    have k1 := fun x : Later w7 => calm_of (ch x.w)
    have k2 := fun x : Later w7 => calm_of (cs x.w)
    have k3 := fun x : Later w7 => calm_of (cw x.w)
    have k4 := fun x : Later w7 => calm_of (cx x.w)
    have k5 := fun x : Later w7 => calm_of (cf x.w)
    have k7 := fun x : Later w7 => calm_of (awake5_any x.w)
    have R7 := later_row v7
    have R8 := later_row v8
    have RR := hide (And.intro R7 R8)
    clear R7 R8 v0 v7 v8 ch cs cw cx cf
    repeat (first | (go_big_quiet_want; refine quiet_row 26 (.tmp 7) g7 _ rfl rfl RR.out.1 Try.underlying26 rfl (sizeFlags _) ?_; (try simp only [Act.put, List.setIfInBounds_toArray, List.set_cons_succ, List.set_cons_zero]); go_big_quiet_on) | (go_big_quiet_want; refine quiet_row 26 (.tmp 8) g8 _ rfl rfl RR.out.2 Try.underlying26 rfl (sizeFlags _) ?_; (try simp only [Act.put, List.setIfInBounds_toArray, List.set_cons_succ, List.set_cons_zero]); go_big_quiet_on) | go_big_quiet_step (first | (go_at_call 10; with_reducible exact k1 _) | (go_at_call 11; with_reducible exact k2 _) | (go_at_call 12; with_reducible exact k3 _) | (go_at_call 14; with_reducible exact k4 _) | (go_at_call 13; first | with_reducible exact k5 _) | (go_at_call 15; with_reducible exact k7 _)))
    refine wpQuiet_nil ?_
    rintro _ ⟨x9, rfl⟩
    have hb9 := x9.below
    generalize x9.w = w9 at hb9 ⊢
    go_wp2
    go_ret
    exact ⟨rfl, b9.trans (hb9.mono b9.size)⟩
  · go_wp2_with fail
    obtain ⟨v0, v7, v8, b9⟩ := V.out
    generalize W9 = w7 at *
    clear V
    have g0 := Later.cell v0.c0
    have g1 := Later.cell v0.c1
    refine wp_region_calm (by kernel_rfl) (by kernel_rfl) ?_
    have k1 := fun x : Later w7 => calm_of (ch x.w)
    have k2 := fun x : Later w7 => calm_of (cs x.w)
    have k3 := fun x : Later w7 => calm_of (cw x.w)
    have k4 := fun x : Later w7 => calm_of (cx x.w)
    have k5 := fun x : Later w7 => calm_of (cf x.w)
    have k7 := fun x : Later w7 => calm_of (awake5_any x.w)
    have R7 := later_row v7
    have R8 := later_row v8
    have RR := hide (And.intro R7 R8)
    clear R7 R8 v0 v7 v8 ch cs cw cx cf
    repeat (first | (go_big_quiet_want; refine quiet_row 26 (.tmp 7) g7 _ rfl rfl RR.out.1 Try.underlying26 rfl (sizeFlags _) ?_; (try simp only [Act.put, List.setIfInBounds_toArray, List.set_cons_succ, List.set_cons_zero]); go_big_quiet_on) | (go_big_quiet_want; refine quiet_row 26 (.tmp 8) g8 _ rfl rfl RR.out.2 Try.underlying26 rfl (sizeFlags _) ?_; (try simp only [Act.put, List.setIfInBounds_toArray, List.set_cons_succ, List.set_cons_zero]); go_big_quiet_on) | go_big_quiet_step (first | (go_at_call 10; with_reducible exact k1 _) | (go_at_call 11; with_reducible exact k2 _) | (go_at_call 12; with_reducible exact k3 _) | (go_at_call 14; with_reducible exact k4 _) | (go_at_call 13; first | with_reducible exact k5 _) | (go_at_call 15; with_reducible exact k7 _)))
    refine wpQuiet_nil ?_
    rintro _ ⟨x9, rfl⟩
    have hb9 := x9.below
    generalize x9.w = w9 at hb9 ⊢
    go_wp2
    go_ret
    exact ⟨rfl, b9.trans (hb9.mono b9.size)⟩
set_option maxRecDepth 100000 in
theorem walk11 (a b : Nat) (rank : Int) (r : Nat) (w : World) (ha : a < 18446744073709551616) (hb : b < 18446744073709551616) (h0 : -9223372036854775808 ≤ rank) (h1 : rank ≤ 9223372036854775807) (hx : pickF rank 130 - 1 = (r : Int)) (hr : r < 128) :
    Calls Try.prog 3 #[.agg #[.int .u64 (a : Int), .int .u64 (b : Int)], .int .i64 rank, .bool true] w fun e w' => e = .returned (.bool true) ∧ Below w.heap.size w w' := by
  have cp := fun W => pick_any rank 130 W h0 h1 (by decide) (by decide)
  have hy1 := pickF_bd (a := rank) (n := 130) (by decide)
  generalize pickF rank 130 = y at *
  obtain ⟨hy1, hy2⟩ := hy1
  have ch := fun W => has_any a b r W ha hb hr
  have cs := fun W => rset_any a b r W ha hb hr
  have cw := fun W => with_any a b r W ha hb hr
  have cx := fun W => wout_any a b r W ha hb hr
  have cf := fun W => rof_any (fun j => if j = r then true else bitM a b j) W
  have cg := fun W => rof_any (fun j => if j = r then false else bitM a b j) W
  have e1 := laid_is a b r true (putA a r) (putB b r) (putA_lt ha) (putB_lt hb hr) (fun i hi => by
    rw [put_bit a b r i hr hi]
    by_cases e : i = r
    · subst e; simp
    · simp [e])
  have e2 := laid_is a b r false (cutA a r) (cutB b r) (cutA_lt ha) (cutB_lt hb) (fun i hi => by
    rw [cut_bit a b r i hr hi]
    by_cases e : i = r
    · subst e; simp
    · simp [e])
  rw [e1.1, e1.2] at cf
  rw [e2.1, e2.2] at cg
  clear e1 e2
  obtain ⟨ff, hff⟩ : ∃ ff : Nat → Bool, ff = fun j => if j = r then true else bitM a b j := ⟨_, rfl⟩
  obtain ⟨gg, hgg⟩ : ∃ gg : Nat → Bool, gg = fun j => if j = r then false else bitM a b j := ⟨_, rfl⟩
  rw [← hff] at cf
  rw [← hgg] at cg
  have hq1 := mask_self (putA a r) (putB b r) (putA_lt ha) (putB_lt hb hr)
  have hq2 := mask_self (cutA a r) (cutB b r) (cutA_lt ha) (cutB_lt hb)
  generalize putA a r = A1 at *
  generalize putB b r = A2 at *
  generalize cutA a r = C1 at *
  generalize cutB b r = C2 at *
  obtain ⟨q, hq⟩ : ∃ q, q = bitM a b r := ⟨_, rfl⟩
  rw [← hq] at ch cs
  have HQ := hide hq
  clear hq
  have hqq : ∀ t : Bool, (t == t) = true := fun t => by simp
  have cl := fun W => rflags_any a b W ha hb
  obtain ⟨F, hF⟩ : ∃ F, F = flagsA (bitM a b) := ⟨_, rfl⟩
  rw [← hF] at cl
  obtain ⟨w1, hw1⟩ : ∃ w1, w1 = w.alloc (.cells #[.int .u64 (a : Int), .int .u64 (b : Int)] 24) := ⟨_, rfl⟩
  have m0 : MAt w1 w.heap.size a b := by rw [hw1]; exact MAt.mk_ w a b
  have hb0 : Below w.heap.size w w1 := by rw [hw1]; exact (Below.refl _ _).alloc (Nat.le_refl _) _
  go_enter Try.func3, Try.ntmps3
  go_wp2_with fail
  refine (cp _).mono ?_
  rintro e w2 ⟨rfl, rfl⟩
  clear cp
  go_wp2_with fail
  rw [← hw1]
  clear hw1
  have P0 := hide m0
  clear m0
  refine wp_region_flow_apart 6 [7, 8] (by kernel_rfl) (by kernel_rfl) (by kernel_rfl) (makers_of zeroFlagsO (by kernel_rfl)) ⟨?_, ?_⟩ ?_
  · intro s hs p hp
    simp only [List.mem_cons, List.mem_nil_iff, or_false] at hs
    rcases hs with rfl | rfl <;> (simp [Act.eval] at hp; cases hp)
  · intro s hs t ht hst p q hp hq
    simp only [List.mem_cons, List.mem_nil_iff, or_false] at hs
    rcases hs with rfl | rfl <;> (simp [Act.eval] at hp; cases hp)
  simp only [List.take_succ_cons, List.take_zero, List.drop_succ_cons, List.drop_zero]
  refine flow_row _ rfl rfl (fun v w8 h8 => by simpa [tput, frameW, Act.eval] using h8) P0.out Try.underlying24 rfl (by kernel_rfl) ?_
  refine flow_step (fun v _ => v = .agg F) rfl (fun _ _ _ h _ => h) ?_ ?_
  · intro ρ w8 hr8 hw hf
    have r2 := hr8.func
    simp [Oper.looksAt, Op.operands, Call.operands, tput, frameW, Act.eval] at hf
    have CN := hide (cl w8)
    clear P0 hF
    go_simp
    refine ⟨Below.refl _ _, (unhide CN).mono ?_⟩
    rintro e w7 ⟨rfl, hb7⟩
    exact ⟨_, rfl, hb7, rfl⟩
  refine flow_row _ rfl rfl (fun v w8 h8 => by simpa [tput, frameW, Act.eval] using h8) P0.out Try.underlying24 rfl (by kernel_rfl) ?_
  refine flow_step (fun v _ => v = .agg F) rfl (fun _ _ _ h _ => h) ?_ ?_
  · intro ρ w8 hr8 hw hf
    have r2 := hr8.func
    simp [Oper.looksAt, Op.operands, Call.operands, tput, frameW, Act.eval] at hf
    have CN := hide (cl w8)
    clear P0 hF
    go_simp
    refine ⟨Below.refl _ _, (unhide CN).mono ?_⟩
    rintro e w7 ⟨rfl, hb7⟩
    exact ⟨_, rfl, hb7, rfl⟩
  refine flow_alloc zeroFlagsO rfl rfl ?_
  refine flow_alloc zeroFlagsO rfl rfl ?_
  refine flow_nil ?_
  intro f w8 hb8 hf hap
  have h7 := hf 7; simp only [tput] at h7
  have h8 := hf 8; simp only [tput] at h8
  obtain ⟨g7, e7, l7, q7⟩ := newW_fat h7
  obtain ⟨g8, e8, l8, q8⟩ := newW_fat h8
  have hne : g7 ≠ g8 := hap 7 (by simp) 8 (by simp) (by decide) _ _ e7 e8
  have hne' : g8 ≠ g7 := fun e => hne e.symm
  clear h7 h8 hap
  have f0 := hf 0; simp [tput, frameW, Act.eval] at f0
  have f1 := hf 1; simp [tput, frameW, Act.eval] at f1
  have f2 := hf 2; simp [tput, frameW, Act.eval] at f2
  have f3 := hf 3; simp [tput, frameW, Act.eval] at f3
  have f4 := hf 4; simp [tput, frameW, Act.eval] at f4
  have f6 := hf 6; simp [tput, frameW, Act.eval] at f6
  have f9 := hf 9; simp [tput, frameW, Act.eval] at f9
  have f14 := hf 14; simp [tput, frameW, Act.eval] at f14
  have f16 := hf 16; simp [tput, frameW, Act.eval] at f16
  have f10 := hf 10; simp [tput, frameW, Act.eval] at f10
  have f11 := hf 11; simp [tput, frameW, Act.eval] at f11
  have f12 := hf 12; simp [tput, frameW, Act.eval] at f12
  rw [show frameOf f _ _ = ⟨#[f 0, f 1, f 2, f 3, f 4, f 5, f 6, f 7, f 8, f 9, f 10, f 11, f 12, f 13, f 14, f 15, f 16, f 17, f 18, f 19, f 20, f 21, f 22, f 23, f 24, f 25, f 26, f 27, f 28, f 29, f 30, f 31, f 32, f 33, f 34, f 35, f 36, f 37, f 38, f 39, f 40, f 41, f 42, f 43, f 44, f 45, f 46, f 47, f 48, f 49, f 50, f 51, f 52], []⟩ from rfl, f0, f1, f2, f3, f4, f6, f9, f14, f16, f10, f11, f12, e7, e8]
  have b6 := hb0.trans (hb8.mono hb0.size)
  have a0 := P0.out.later hb8
  have s0 := hb0.size
  have s1 := P0.out.lt
  have n7 : w.heap.size ≠ g7 := by omega
  have n8 : w.heap.size ≠ g8 := by omega
  have u7 := (q7.row (bitM a b)).rowO (flagsA (bitM a b)) hne
  have u8 := (q8.rowO (flagsA (bitM a b)) hne').row (bitM a b)
  have u0 := (a0.rowO (flagsA (bitM a b)) n7).rowO (flagsA (bitM a b)) n8
  have b7 := below_setRow (below_setRow b6 (show w.heap.size ≤ g7 by omega) (flagsA (bitM a b))) (show w.heap.size ≤ g8 by omega) (flagsA (bitM a b))
  have q8' := q8.rowO (flagsA (bitM a b)) hne'
  rw [← hF] at u7 u8 u0 b7 q8'
  have hFz : (Try.prog.info? 26).map (·.size) = some F.size := by rw [hF]; exact sizeFlags _
  have hF1 : (flagsA fun _ => false).size = F.size := by rw [hF, flagsA_size, flagsA_size]
  have hF2 : F.all (·.oneCell') = true := by rw [hF]; exact flagsA_one _
  have d0 := u7.cell hr
  have d1 := u7.fz r
  have d2 := u8.cell hr
  have d3 := u8.fz r
  have v7 := (u7.set_ hr true).other (a := ⟨g8, r, none⟩) (.bool false) hne
  have v8 := (u8.other (a := ⟨g7, r, none⟩) (.bool true) hne').set_ hr false
  have v0 := (u0.other (a := ⟨g7, r, none⟩) (.bool true) n7).other (a := ⟨g8, r, none⟩) (.bool false) n8
  have b9 := (b7.setCell (p := ⟨g7, r, none⟩) (show w.heap.size ≤ g7 by omega) (.bool true)).setCell (p := ⟨g8, r, none⟩) (show w.heap.size ≤ g8 by omega) (.bool false)
  rw [← HQ.out] at d0 d2
  replace v7 := v7.congr (q := ff) (fun i _ => by rw [hff])
  replace v8 := v8.congr (q := gg) (fun i _ => by rw [hgg])
  clear hff hgg
  generalize hW9 : (w8.setRow g7 F).setRow g8 F = W9 at *
  have V := hide (And.intro v0 (And.intro v7 (And.intro v8 b9)))
  have Z := hide (And.intro q7 (And.intro q8' (And.intro hFz (And.intro hF1 hF2))))
  clear hf v0 v7 v8 b9 u0 u7 u8 b7 b6 a0 q7 q8 q8' P0 hb8 hb0 s0 s1 n7 n8 hFz hF1 hF2 cl HQ
  refine wpList_store_row rfl 26 (.tmp 7) (.tmp 14) rfl g7 F rfl rfl _ _ Z.out.1 Z.out.2.2.1 Z.out.2.2.2.1 Z.out.2.2.2.2 ?_
  refine wpList_store_row rfl 26 (.tmp 8) (.tmp 16) rfl g8 F rfl rfl _ _ Z.out.2.1 Z.out.2.2.1 Z.out.2.2.2.1 Z.out.2.2.2.2 ?_
  rw [hW9]
  clear Z hW9 hF
  go_wp2_with fail
  obtain ⟨v0, v7, v8, b9⟩ := V.out
  generalize ((W9.setCell ⟨g7, r, none⟩ (.bool true)).setCell ⟨g8, r, none⟩ (.bool false)) = w7 at *
  clear V
  have g0 := Later.cell v0.c0
  have g1 := Later.cell v0.c1
  refine wp_region_calm (by kernel_rfl) (by kernel_rfl) ?_
  have k1 := fun x : Later w7 => calm_of (ch x.w)
  have k2 := fun x : Later w7 => calm_of (cs x.w)
  have k3 := fun x : Later w7 => calm_of (cw x.w)
  have k4 := fun x : Later w7 => calm_of (cx x.w)
  have k5 := fun x : Later w7 => calm_of (cf x.w)
  have k6 := fun x : Later w7 => calm_of (cg x.w)
  have k7 := fun x : Later w7 => calm_of (awake5_any x.w)
  have R7 := later_row v7
  have R8 := later_row v8
  have RR := hide (And.intro R7 R8)
  clear R7 R8 v0 v7 v8 ch cs cw cx cf cg
  repeat (first | (go_big_quiet_want; refine quiet_row 26 (.tmp 7) g7 _ rfl rfl RR.out.1 Try.underlying26 rfl (sizeFlags _) ?_; (try simp only [Act.put, List.setIfInBounds_toArray, List.set_cons_succ, List.set_cons_zero]); go_big_quiet_on) | (go_big_quiet_want; refine quiet_row 26 (.tmp 8) g8 _ rfl rfl RR.out.2 Try.underlying26 rfl (sizeFlags _) ?_; (try simp only [Act.put, List.setIfInBounds_toArray, List.set_cons_succ, List.set_cons_zero]); go_big_quiet_on) | go_big_quiet_step (first | (go_at_call 10; with_reducible exact k1 _) | (go_at_call 11; with_reducible exact k2 _) | (go_at_call 12; with_reducible exact k3 _) | (go_at_call 14; with_reducible exact k4 _) | (go_at_call 13; first | with_reducible exact k5 _ | with_reducible exact k6 _) | (go_at_call 15; with_reducible exact k7 _)))
  refine wpQuiet_nil ?_
  rintro _ ⟨x9, rfl⟩
  have hb9 := x9.below
  generalize x9.w = w9 at hb9 ⊢
  go_wp2
  go_ret
  exact ⟨rfl, b9.trans (hb9.mono b9.size)⟩
set_option maxRecDepth 100000 in
theorem walk10 (a b : Nat) (rank : Int) (x : Int) (w : World) (ha : a < 18446744073709551616) (hb : b < 18446744073709551616) (h0 : -9223372036854775808 ≤ rank) (h1 : rank ≤ 9223372036854775807) (hx : pickF rank 130 - 1 = x) (hr : ¬ (0 ≤ x ∧ x < 128)) :
    Calls Try.prog 3 #[.agg #[.int .u64 (a : Int), .int .u64 (b : Int)], .int .i64 rank, .bool true] w fun e w' => e = .returned (.bool true) ∧ Below w.heap.size w w' := by
  have cp := fun W => pick_any rank 130 W h0 h1 (by decide) (by decide)
  have hy1 := pickF_bd (a := rank) (n := 130) (by decide)
  generalize pickF rank 130 = y at *
  obtain ⟨hy1, hy2⟩ := hy1
  have ch := fun W => has_no a b x W hr
  have cs := fun W => rset_no a b x W hr
  have cw := fun W => with_no a b x W hr
  have cx := fun W => wout_no a b x W hr
  have cf := fun W => rof_any (bitM a b) W
  have e1 := mask_of (p := bitM a b) ha hb (fun i _ => rfl)
  rw [e1.1, e1.2] at cf
  clear e1
  have hq1 := mask_self a b ha hb
  have hqq : ∀ t : Bool, (t == t) = true := fun t => by simp
  have cl := fun W => rflags_any a b W ha hb
  obtain ⟨F, hF⟩ : ∃ F, F = flagsA (bitM a b) := ⟨_, rfl⟩
  rw [← hF] at cl
  obtain ⟨w1, hw1⟩ : ∃ w1, w1 = w.alloc (.cells #[.int .u64 (a : Int), .int .u64 (b : Int)] 24) := ⟨_, rfl⟩
  have m0 : MAt w1 w.heap.size a b := by rw [hw1]; exact MAt.mk_ w a b
  have hb0 : Below w.heap.size w w1 := by rw [hw1]; exact (Below.refl _ _).alloc (Nat.le_refl _) _
  have hr1 : ¬ 0 ≤ x ∨ ¬ x < 128 := by omega
  go_enter Try.func3, Try.ntmps3
  go_wp2_with fail
  refine (cp _).mono ?_
  rintro e w2 ⟨rfl, rfl⟩
  clear cp
  go_wp2_with fail
  rw [← hw1]
  clear hw1
  have P0 := hide m0
  clear m0
  refine wp_region_flow_apart 6 [7, 8] (by kernel_rfl) (by kernel_rfl) (by kernel_rfl) (makers_of zeroFlagsO (by kernel_rfl)) ⟨?_, ?_⟩ ?_
  · intro s hs p hp
    simp only [List.mem_cons, List.mem_nil_iff, or_false] at hs
    rcases hs with rfl | rfl <;> (simp [Act.eval] at hp; cases hp)
  · intro s hs t ht hst p q hp hq
    simp only [List.mem_cons, List.mem_nil_iff, or_false] at hs
    rcases hs with rfl | rfl <;> (simp [Act.eval] at hp; cases hp)
  simp only [List.take_succ_cons, List.take_zero, List.drop_succ_cons, List.drop_zero]
  refine flow_row _ rfl rfl (fun v w8 h8 => by simpa [tput, frameW, Act.eval] using h8) P0.out Try.underlying24 rfl (by kernel_rfl) ?_
  refine flow_step (fun v _ => v = .agg F) rfl (fun _ _ _ h _ => h) ?_ ?_
  · intro ρ w8 hr8 hw hf
    have r2 := hr8.func
    simp [Oper.looksAt, Op.operands, Call.operands, tput, frameW, Act.eval] at hf
    have CN := hide (cl w8)
    clear P0 hF
    go_simp
    refine ⟨Below.refl _ _, (unhide CN).mono ?_⟩
    rintro e w7 ⟨rfl, hb7⟩
    exact ⟨_, rfl, hb7, rfl⟩
  refine flow_row _ rfl rfl (fun v w8 h8 => by simpa [tput, frameW, Act.eval] using h8) P0.out Try.underlying24 rfl (by kernel_rfl) ?_
  refine flow_step (fun v _ => v = .agg F) rfl (fun _ _ _ h _ => h) ?_ ?_
  · intro ρ w8 hr8 hw hf
    have r2 := hr8.func
    simp [Oper.looksAt, Op.operands, Call.operands, tput, frameW, Act.eval] at hf
    have CN := hide (cl w8)
    clear P0 hF
    go_simp
    refine ⟨Below.refl _ _, (unhide CN).mono ?_⟩
    rintro e w7 ⟨rfl, hb7⟩
    exact ⟨_, rfl, hb7, rfl⟩
  refine flow_alloc zeroFlagsO rfl rfl ?_
  refine flow_alloc zeroFlagsO rfl rfl ?_
  refine flow_nil ?_
  intro f w8 hb8 hf hap
  have h7 := hf 7; simp only [tput] at h7
  have h8 := hf 8; simp only [tput] at h8
  obtain ⟨g7, e7, l7, q7⟩ := newW_fat h7
  obtain ⟨g8, e8, l8, q8⟩ := newW_fat h8
  have hne : g7 ≠ g8 := hap 7 (by simp) 8 (by simp) (by decide) _ _ e7 e8
  have hne' : g8 ≠ g7 := fun e => hne e.symm
  clear h7 h8 hap
  have f0 := hf 0; simp [tput, frameW, Act.eval] at f0
  have f1 := hf 1; simp [tput, frameW, Act.eval] at f1
  have f2 := hf 2; simp [tput, frameW, Act.eval] at f2
  have f3 := hf 3; simp [tput, frameW, Act.eval] at f3
  have f4 := hf 4; simp [tput, frameW, Act.eval] at f4
  have f6 := hf 6; simp [tput, frameW, Act.eval] at f6
  have f9 := hf 9; simp [tput, frameW, Act.eval] at f9
  have f14 := hf 14; simp [tput, frameW, Act.eval] at f14
  have f16 := hf 16; simp [tput, frameW, Act.eval] at f16
  have f10 := hf 10; simp [tput, frameW, Act.eval] at f10
  have f11 := hf 11; simp [tput, frameW, Act.eval] at f11
  have f12 := hf 12; simp [tput, frameW, Act.eval] at f12
  rw [show frameOf f _ _ = ⟨#[f 0, f 1, f 2, f 3, f 4, f 5, f 6, f 7, f 8, f 9, f 10, f 11, f 12, f 13, f 14, f 15, f 16, f 17, f 18, f 19, f 20, f 21, f 22, f 23, f 24, f 25, f 26, f 27, f 28, f 29, f 30, f 31, f 32, f 33, f 34, f 35, f 36, f 37, f 38, f 39, f 40, f 41, f 42, f 43, f 44, f 45, f 46, f 47, f 48, f 49, f 50, f 51, f 52], []⟩ from rfl, f0, f1, f2, f3, f4, f6, f9, f14, f16, f10, f11, f12, e7, e8]
  have b6 := hb0.trans (hb8.mono hb0.size)
  have a0 := P0.out.later hb8
  have s0 := hb0.size
  have s1 := P0.out.lt
  have n7 : w.heap.size ≠ g7 := by omega
  have n8 : w.heap.size ≠ g8 := by omega
  have u7 := (q7.row (bitM a b)).rowO (flagsA (bitM a b)) hne
  have u8 := (q8.rowO (flagsA (bitM a b)) hne').row (bitM a b)
  have u0 := (a0.rowO (flagsA (bitM a b)) n7).rowO (flagsA (bitM a b)) n8
  have b7 := below_setRow (below_setRow b6 (show w.heap.size ≤ g7 by omega) (flagsA (bitM a b))) (show w.heap.size ≤ g8 by omega) (flagsA (bitM a b))
  have q8' := q8.rowO (flagsA (bitM a b)) hne'
  rw [← hF] at u7 u8 u0 b7 q8'
  have hFz : (Try.prog.info? 26).map (·.size) = some F.size := by rw [hF]; exact sizeFlags _
  have hF1 : (flagsA fun _ => false).size = F.size := by rw [hF, flagsA_size, flagsA_size]
  have hF2 : F.all (·.oneCell') = true := by rw [hF]; exact flagsA_one _
  generalize hW9 : (w8.setRow g7 F).setRow g8 F = W9 at *
  have V := hide (And.intro u0 (And.intro u7 (And.intro u8 b7)))
  have Z := hide (And.intro q7 (And.intro q8' (And.intro hFz (And.intro hF1 hF2))))
  clear hf u0 u7 u8 b7 b6 a0 q7 q8 q8' P0 hb8 hb0 s0 s1 n7 n8 hFz hF1 hF2 cl
  refine wpList_store_row rfl 26 (.tmp 7) (.tmp 14) rfl g7 F rfl rfl _ _ Z.out.1 Z.out.2.2.1 Z.out.2.2.2.1 Z.out.2.2.2.2 ?_
  refine wpList_store_row rfl 26 (.tmp 8) (.tmp 16) rfl g8 F rfl rfl _ _ Z.out.2.1 Z.out.2.2.1 Z.out.2.2.2.1 Z.out.2.2.2.2 ?_
  rw [hW9]
  clear Z hW9 hF
  rcases hr1 with hr1 | hr1
  · go_wp2_with fail
    obtain ⟨v0, v7, v8, b9⟩ := V.out
    generalize W9 = w7 at *
    clear V
    have g0 := Later.cell v0.c0
    have g1 := Later.cell v0.c1
    refine wp_region_calm (by kernel_rfl) (by kernel_rfl) ?_
    have k1 := fun x : Later w7 => calm_of (ch x.w)
    have k2 := fun x : Later w7 => calm_of (cs x.w)
    have k3 := fun x : Later w7 => calm_of (cw x.w)
    have k4 := fun x : Later w7 => calm_of (cx x.w)
    have k5 := fun x : Later w7 => calm_of (cf x.w)
    have k7 := fun x : Later w7 => calm_of (awake5_any x.w)
    have R7 := later_row v7
    have R8 := later_row v8
    have RR := hide (And.intro R7 R8)
    clear R7 R8 v0 v7 v8 ch cs cw cx cf
    repeat (first | (go_big_quiet_want; refine quiet_row 26 (.tmp 7) g7 _ rfl rfl RR.out.1 Try.underlying26 rfl (sizeFlags _) ?_; (try simp only [Act.put, List.setIfInBounds_toArray, List.set_cons_succ, List.set_cons_zero]); go_big_quiet_on) | (go_big_quiet_want; refine quiet_row 26 (.tmp 8) g8 _ rfl rfl RR.out.2 Try.underlying26 rfl (sizeFlags _) ?_; (try simp only [Act.put, List.setIfInBounds_toArray, List.set_cons_succ, List.set_cons_zero]); go_big_quiet_on) | go_big_quiet_step (first | (go_at_call 10; with_reducible exact k1 _) | (go_at_call 11; with_reducible exact k2 _) | (go_at_call 12; with_reducible exact k3 _) | (go_at_call 14; with_reducible exact k4 _) | (go_at_call 13; first | with_reducible exact k5 _) | (go_at_call 15; with_reducible exact k7 _)))
    refine wpQuiet_nil ?_
    rintro _ ⟨x9, rfl⟩
    have hb9 := x9.below
    generalize x9.w = w9 at hb9 ⊢
    go_wp2
    go_ret
    exact ⟨rfl, b9.trans (hb9.mono b9.size)⟩
  · go_wp2_with fail
    obtain ⟨v0, v7, v8, b9⟩ := V.out
    generalize W9 = w7 at *
    clear V
    have g0 := Later.cell v0.c0
    have g1 := Later.cell v0.c1
    refine wp_region_calm (by kernel_rfl) (by kernel_rfl) ?_
    have k1 := fun x : Later w7 => calm_of (ch x.w)
    have k2 := fun x : Later w7 => calm_of (cs x.w)
    have k3 := fun x : Later w7 => calm_of (cw x.w)
    have k4 := fun x : Later w7 => calm_of (cx x.w)
    have k5 := fun x : Later w7 => calm_of (cf x.w)
    have k7 := fun x : Later w7 => calm_of (awake5_any x.w)
    have R7 := later_row v7
    have R8 := later_row v8
    have RR := hide (And.intro R7 R8)
    clear R7 R8 v0 v7 v8 ch cs cw cx cf
    repeat (first | (go_big_quiet_want; refine quiet_row 26 (.tmp 7) g7 _ rfl rfl RR.out.1 Try.underlying26 rfl (sizeFlags _) ?_; (try simp only [Act.put, List.setIfInBounds_toArray, List.set_cons_succ, List.set_cons_zero]); go_big_quiet_on) | (go_big_quiet_want; refine quiet_row 26 (.tmp 8) g8 _ rfl rfl RR.out.2 Try.underlying26 rfl (sizeFlags _) ?_; (try simp only [Act.put, List.setIfInBounds_toArray, List.set_cons_succ, List.set_cons_zero]); go_big_quiet_on) | go_big_quiet_step (first | (go_at_call 10; with_reducible exact k1 _) | (go_at_call 11; with_reducible exact k2 _) | (go_at_call 12; with_reducible exact k3 _) | (go_at_call 14; with_reducible exact k4 _) | (go_at_call 13; first | with_reducible exact k5 _) | (go_at_call 15; with_reducible exact k7 _)))
    refine wpQuiet_nil ?_
    rintro _ ⟨x9, rfl⟩
    have hb9 := x9.below
    generalize x9.w = w9 at hb9 ⊢
    go_wp2
    go_ret
    exact ⟨rfl, b9.trans (hb9.mono b9.size)⟩
set_option maxRecDepth 100000 in
theorem walk (a b : Nat) (rank : Int) (near : Bool) (w : World) (ha : a < 18446744073709551616) (hb : b < 18446744073709551616) (hn : (Lit.int .i64 rank).wf = true) :
    Calls Try.prog 3 #[.agg #[.int .u64 (a : Int), .int .u64 (b : Int)], .int .i64 rank, .bool near] w fun e w' => e = .returned (.bool true) ∧ Below w.heap.size w w' := by
  have hn' := wf_i64 hn
  cases near
  · by_cases hr : 0 ≤ rank ∧ rank < 128
    · exact walk01 a b rank rank.toNat w ha hb (by omega) (by omega)
    · exact walk00 a b rank rank w ha hb rfl hr
  · by_cases hr : 0 ≤ pickF rank 130 - 1 ∧ pickF rank 130 - 1 < 128
    · exact walk11 a b rank (pickF rank 130 - 1).toNat w ha hb hn'.1 hn'.2 (by omega) (by omega)
    · exact walk10 a b rank (pickF rank 130 - 1) w ha hb hn'.1 hn'.2 rfl hr

/-! ### THE ROW's STEP -/
set_option maxRecDepth 100000 in
theorem lifted (os : Os) (started : os.Started) (H : Type) (enc : TypeId × Value → H) :
    ReturnsInHanded {} Try.checked os 3 .any (Rows.maskRanksSpec.pre6 enc Try.prog Try.f3 Rows.maskRanksRow.domain false) (Rows.maskRanksSpec.post enc Try.prog Try.f3 false true false false) := by
  refine returnsInHanded_of_change (C := Try.checked) own started (by kernel_rfl) Try.func3
    (ChangeSpec.witness6 (enc := enc) (C := Try.checked) false ⟨#[], #[.agg #[.int .u64 0, .int .u64 0], .int .i64 0, .bool false], []⟩ 8 (by kernel_rfl) (by kernel_rfl) (by kernel_rfl) (by kernel_rfl)) ?_
  intro W base args ds gs before hval0 hW hcnd _
  have hval : ∀ (j : Nat) t v, Try.f3.params[j]? = some t → args[j]? = some v → Value.okWide Try.prog W .any base t v := hval0
  have hW' := hW
  obtain ⟨p, q, hA0, hV, rfl, hfz, hnd⟩ := hW
  have hA : DataW.TrodAll enc Try.prog W 0 (fun _ => true) true Try.f3.params.toList args.toList ds p := hA0
  rw [Try.params3] at hA hval
  obtain ⟨v0, vs0, d0, ds0, p0, q0, hargs, rfl, rfl, h0, r0⟩ := trodAll_cons hA
  obtain ⟨v1, vs1, d1, ds1, p1, q1, rfl, rfl, rfl, h1, r1⟩ := trodAll_cons r0
  obtain ⟨v2, vs2, d2, ds2, p2, q2, rfl, rfl, rfl, h2, r2⟩ := trodAll_cons r1
  obtain ⟨rfl, rfl, rfl⟩ := trodAll_nil r2
  obtain rfl : args = #[v0, v1, v2] := by cases args; simp_all
  obtain ⟨rfl, rfl⟩ := trodVars_none hV
  have k0 := h0
  have lt0 : ∀ x ∈ p0, x.block < W.heap.size := by obtain ⟨m, hm⟩ := k0; exact DataW.trod_lt m _ _ _ hm
  obtain ⟨x0, y0, rfl, hx0, hy0⟩ := open_mask (hval 0 24 v0 rfl rfl) h0
  have k1 := h1
  have lt1 : ∀ x ∈ p1, x.block < W.heap.size := by obtain ⟨m, hm⟩ := k1; exact DataW.trod_lt m _ _ _ hm
  obtain ⟨a1, rfl, rfl, rfl, w1⟩ := open_int Try.underlying3 (hval 1 3 v1 rfl rfl) h1
  have k2 := h2
  have lt2 : ∀ x ∈ p2, x.block < W.heap.size := by obtain ⟨m, hm⟩ := k2; exact DataW.trod_lt m _ _ _ hm
  obtain ⟨a2, rfl, rfl, rfl⟩ := open_bool Try.underlying4 (hval 2 4 v2 rfl rfl) h2
  clear hA0 hval0
  refine (walk x0 y0 a1 a2 W hx0 hy0 w1).mono fun e W' ⟨he, bel⟩ => ?_
  subst he
  exact ⟨_, rfl, _, _, _, [], _, [], hW', trodAll_mk1 (shut_bool Try.underlying4 _), (trodAll_cons_mk (Below.trod laidOut (by kernel_rfl) (of_decide_eq_true (by kernel_rfl)) k0 bel lt0) (trodAll_cons_mk (Below.trod laidOut (by kernel_rfl) (of_decide_eq_true (by kernel_rfl)) k1 bel lt1) (trodAll_cons_mk (Below.trod laidOut (by kernel_rfl) (of_decide_eq_true (by kernel_rfl)) k2 bel lt2) trodAll_mk0))), rfl, bel.frame _, fun h => by cases h⟩

theorem over : Rows.maskRanksRow.holds Try.pinned (OpenSpec.ofChange Rows.maskRanksSpec) :=
  OpenClaim.holds_of_wide 3 Try.f3 rfl rfl rfl rfl rfl rfl rfl ⟨rfl, rfl, rfl, rfl, rfl⟩ rfl rfl rfl rfl rfl (by kernel_rfl) Try.func3 (by kernel_rfl)
    (of_decide_eq_true (by kernel_rfl)) (by unfold Func.isWrapper; first | (rw [if_pos (by decide +kernel)]; kernel_rfl) | (rw [if_neg (by decide +kernel)]; exact ⟨rfl, rfl⟩))
    (fun os started H enc _ => lifted os started H enc)

theorem proved : Rows.MaskRanksSaid := over
#print axioms proved
end Go.Proofs.Ytnaegaeicdknbaa.maskRanks
