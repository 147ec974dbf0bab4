/-
  The law choraguslaw02.CrcSums answers true, and does not panic, for every argument that its row allows. Conditions: none but the row's own.
-/
import Derived.Test.YtcfindjjcghhkaaRows
import Derived.WalkKit
import Derived.ProofKit
import Derived.OpenShut
import Derived.ShutString
import Derived.ChangeOld
import Derived.Below
import Derived.Test.YtcfindjjcghhkaaOpen
import Derived.Test.YtcfindjjcghhkaaCrc2
import Derived.Test.YtcfindjjcghhkaaFlow
namespace Go.Proofs.Ytcfindjjcghhkaa.crcSums
open Go.ChangeShapes Go.WideShapes Go.ChangeAt Go.RowKit
open Go.ChangeMaps (open_string shut_string)
set_option linter.unusedVariables false
set_option linter.unusedSimpArgs false

theorem go_flow {A : Option Addr} {n c : Nat} {l : List UInt8} {B s x : Nat} {w : World} (hA : Bs w B A n l) (hn : n ≤ maxLen) (hs : s < 4294967296) (hx : goN s l = x) :
    Calls Try.prog 14 #[.int .u32 (s : Int), .slice A n c] w fun e w' => ∃ u, e = .returned u ∧ Below w.heap.size w w' ∧ u = .int .u32 (x : Int) := by
  refine (go_any A n c l B s w hA hn hs).mono ?_
  rintro e w' ⟨rfl, rfl⟩
  exact ⟨_, rfl, Below.refl _ _, by rw [hx]⟩
theorem begin_flow (w : World) : Calls Try.prog 15 #[] w fun e w' => ∃ u, e = .returned u ∧ Below w.heap.size w w' ∧ u = .int .u32 (onesN : Nat) := by
  refine (begin_any w).mono ?_
  rintro e w' ⟨rfl, rfl⟩
  exact ⟨_, rfl, Below.refl _ _, rfl⟩
theorem end_flow {x s : Nat} (w : World) (h : x < 4294967296) (hs : x ^^^ onesN = s) : Calls Try.prog 13 #[.int .u32 (x : Int)] w fun e w' => ∃ u, e = .returned u ∧ Below w.heap.size w w' ∧ u = .int .u32 (s : Int) := by
  refine (end_any x w h).mono ?_
  rintro e w' ⟨rfl, rfl⟩
  exact ⟨_, rfl, Below.refl _ _, by rw [hs]⟩
set_option maxHeartbeats 1000000 in
set_option maxRecDepth 100000 in
theorem walk (A : Option Addr) (n c : Nat) (zs : List Int) (a1 : Int) (w : World) (w0 : IsRow .u8 w A n c zs) (_b : ∀ x, A = some x → 0 < n → x.block < w.heap.size) (w1 : (Lit.int .i64 a1).wf = true) :
    Calls Try.prog 3 #[.slice A n c, .int .i64 a1] w fun e w' => e = .returned (.bool true) ∧ Below w.heap.size w w' := by
  obtain ⟨l, hA, hnc, hc⟩ := isRow_bytes w0
  have b1 := wf_i64 w1
  clear w0 _b w1
  unfold maxLen at hc
  by_cases h2 : 1000 < n
  · go_enter Try.func3, Try.ntmps3
    go_wp2_with fail
    refine (awake2_any _).mono ?_
    rintro e w' ⟨rfl, hb⟩
    go_wp2
    go_ret
    exact ⟨rfl, hb⟩
  · have hn : n ≤ 1000 := by omega
    have HL := hide hA.len
    clear h2
    obtain ⟨k, hk, hkn⟩ : ∃ k : Nat, pickF a1 (n + 1) = (k : Int) ∧ k ≤ n := by
      have := pickF_bd (a := a1) (n := (n : Int) + 1) (by omega)
      exact ⟨(pickF a1 (n + 1)).toNat, by omega, by omega⟩
    obtain ⟨s, hs⟩ : ∃ s, s = sumN l := ⟨_, rfl⟩
    obtain ⟨x1, hx1⟩ : ∃ x, goN onesN (l.take k) = x := ⟨_, rfl⟩
    obtain ⟨x2, hx2⟩ : ∃ x, goN x1 (l.drop k) = x := ⟨_, rfl⟩
    have b2 : x1 < 4294967296 := by rw [← hx1]; exact goN_lt onesN_lt
    have b3 : x2 < 4294967296 := by rw [← hx2]; exact goN_lt b2
    have hx3 : x2 ^^^ onesN = s := by
      rw [hs, ← hx2, ← hx1, ← goN_append, List.take_append_drop]; rfl
    have hp : sumN [l.take k, l.drop k].flatten = s := by simp [hs]
    have hq : sumN [l].flatten = s := by simp [hs]
    have HK := hide hk
    have HS := hide hs
    have X1 := hide hx1
    have X2 := hide hx2
    have X3 := hide hx3
    have HP := hide hp
    have HQ := hide hq
    obtain ⟨A1, hA1⟩ : ∃ A1 : Option Addr, A1 = some ⟨w.heap.size, 0, none⟩ := ⟨_, rfl⟩
    have HA1 := hide hA1
    obtain ⟨cp, hcp⟩ : ∃ cp, cp = n + 8 := ⟨_, rfl⟩
    have HCP := hide hcp
    have j1 : k ≤ cp := by omega
    have j2 : k < cp := by omega
    have j3 : n ≤ cp := by omega
    have j4 : cp ≤ 1008 := by omega
    have j5 : ¬ cp = k := by omega
    clear hcp
    clear hk hs hx1 hx2 hx3 hp hq hA1
    go_enter Try.func3, Try.ntmps3
    go_wp2_with fail
    refine (lent_any A n c l _ _ hA (Nat.le_refl _) (by omega)).mono ?_
    rintro e w1 ⟨he, hL, hb1⟩
    have hI := hL.bs HL.out (by omega)
    rw [← HA1.out] at he hI
    rw [← HCP.out] at he
    subst he
    have hs1 := hb1.size
    have hA1 := hA.below hb1
    go_wp2_with fail
    refine (pick_any a1 (n + 1) _ (by omega) (by omega) (by omega) (by omega)).mono ?_
    rintro e w' ⟨rfl, rfl⟩
    rw [HK.out]
    go_wp2_with fail
    refine (rsum_any A n c l _ _ hA1 (by unfold maxLen; omega)).mono ?_
    rintro e w' ⟨rfl, rfl⟩
    rw [← HS.out]
    have hT := hI.take hkn
    have hD := hI.cut (k := k) (cap := cp) hkn (by omega)
    rw [if_neg (by omega)] at hD
    go_wp2_with fail
    refine wp_region_flow (by kernel_rfl) (by kernel_rfl) (by kernel_rfl) ?_
    refine flow_val rfl ?_
    apply Exists.intro
    apply And.intro
    · intro ρ w1 hr hf
      have r1 := hr.const
      have r2 := hr.func
      try simp [Oper.looksAt, Op.operands, Call.operands, tput, frameW, Act.eval] at hf
      go_simp
      try rfl
    refine flow_val rfl ?_
    apply Exists.intro
    apply And.intro
    · intro ρ w1 hr hf
      have r1 := hr.const
      have r2 := hr.func
      try simp [Oper.looksAt, Op.operands, Call.operands, tput, frameW, Act.eval] at hf
      go_simp
      try rfl
    refine flow_val rfl ?_
    apply Exists.intro
    apply And.intro
    · intro ρ w1 hr hf
      have r1 := hr.const
      have r2 := hr.func
      try simp [Oper.looksAt, Op.operands, Call.operands, tput, frameW, Act.eval] at hf
      go_simp
      try rfl
    refine flow_val rfl ?_
    apply Exists.intro
    apply And.intro
    · intro ρ w1 hr hf
      have r1 := hr.const
      have r2 := hr.func
      try simp [Oper.looksAt, Op.operands, Call.operands, tput, frameW, Act.eval] at hf
      go_simp
      try rfl
    refine flow_val rfl ?_
    apply Exists.intro
    apply And.intro
    · intro ρ w1 hr hf
      have r1 := hr.const
      have r2 := hr.func
      try simp [Oper.looksAt, Op.operands, Call.operands, tput, frameW, Act.eval] at hf
      go_simp
      try rfl
    refine flow_val rfl ?_
    apply Exists.intro
    apply And.intro
    · intro ρ w1 hr hf
      have r1 := hr.const
      have r2 := hr.func
      try simp [Oper.looksAt, Op.operands, Call.operands, tput, frameW, Act.eval] at hf
      go_simp
      try rfl
    refine flow_step (PartsW 2 [l.take k, l.drop k]) rfl (fun _ _ _ h hb => h.steady hb) ?_ ?_
    · intro ρ w2 hr hw hf
      simp [Oper.looksAt, Op.operands, Call.operands, tput, frameW, Act.eval] at hf
      have h9 := PartsW.two (c := cp) (c' := cp - k) 22 (hT.below hw) (hD.below hw) (by unfold maxLen; omega) (by unfold maxLen; omega) hw.size
      go_simp
      exact ⟨(Below.refl _ _).alloc (Nat.le_refl _) _, h9⟩
    refine flow_step (fun v _ => v = .int .u32 (s : Int)) rfl (fun _ _ _ h _ => h) ?_ ?_
    · intro ρ w2 hr hw hf
      have r2 := hr.func
      simp [Oper.looksAt, Op.operands, Call.operands, tput, frameW, Act.eval] at hf
      generalize hu : ρ (.tmp 28) = u9 at hf
      have H9 := hide (parts_sum hf (by decide) (unhide HP))
      clear hf
      go_simp
      exact ⟨Below.refl _ _, unhide H9⟩
    refine flow_val rfl ?_
    apply Exists.intro
    apply And.intro
    · intro ρ w1 hr hf
      have r1 := hr.const
      have r2 := hr.func
      try simp [Oper.looksAt, Op.operands, Call.operands, tput, frameW, Act.eval] at hf
      go_simp
      try rfl
    refine flow_val rfl ?_
    apply Exists.intro
    apply And.intro
    · intro ρ w1 hr hf
      have r1 := hr.const
      have r2 := hr.func
      try simp [Oper.looksAt, Op.operands, Call.operands, tput, frameW, Act.eval] at hf
      go_simp
      try rfl
    refine flow_val rfl ?_
    apply Exists.intro
    apply And.intro
    · intro ρ w1 hr hf
      have r1 := hr.const
      have r2 := hr.func
      try simp [Oper.looksAt, Op.operands, Call.operands, tput, frameW, Act.eval] at hf
      go_simp
      try rfl
    refine flow_yes (fun v _ => v = .int .u32 (onesN : Nat)) 10 true 32 rfl rfl (fun v w h => by simpa [tput] using h) (fun _ _ _ h _ => h) ?_ ?_
    · intro ρ w1 hr hw hf
      have r2 := hr.func
      try simp [Oper.looksAt, Op.operands, Call.operands, tput, frameW, Act.eval] at hf
      have H9 := hide (begin_flow w1)
      go_simp
      exact ⟨Below.refl _ _, unhide H9⟩
    refine flow_yes_val 10 true 32 rfl rfl (fun v w h => by simpa [tput] using h) ?_
    apply Exists.intro
    apply And.intro
    · intro ρ w1 hr hf
      have r1 := hr.const
      have r2 := hr.func
      try simp [Oper.looksAt, Op.operands, Call.operands, tput, frameW, Act.eval] at hf
      go_simp
      try rfl
    refine flow_yes_val 10 true 32 rfl rfl (fun v w h => by simpa [tput] using h) ?_
    apply Exists.intro
    apply And.intro
    · intro ρ w1 hr hf
      have r1 := hr.const
      have r2 := hr.func
      try simp [Oper.looksAt, Op.operands, Call.operands, tput, frameW, Act.eval] at hf
      go_simp
      try rfl
    refine flow_yes_val 10 true 32 rfl rfl (fun v w h => by simpa [tput] using h) ?_
    apply Exists.intro
    apply And.intro
    · intro ρ w1 hr hf
      have r1 := hr.const
      have r2 := hr.func
      try simp [Oper.looksAt, Op.operands, Call.operands, tput, frameW, Act.eval] at hf
      go_simp
      try rfl
    refine flow_yes (fun v _ => v = .int .u32 (x1 : Int)) 10 true 32 rfl rfl (fun v w h => by simpa [tput] using h) (fun _ _ _ h _ => h) ?_ ?_
    · intro ρ w1 hr hw hf
      have r2 := hr.func
      try simp [Oper.looksAt, Op.operands, Call.operands, tput, frameW, Act.eval] at hf
      have H9 := hide (go_flow (c := cp) (hT.below hw) (by unfold maxLen; omega) onesN_lt X1.out)
      go_simp
      exact ⟨Below.refl _ _, unhide H9⟩
    refine flow_yes_val 10 true 32 rfl rfl (fun v w h => by simpa [tput] using h) ?_
    apply Exists.intro
    apply And.intro
    · intro ρ w1 hr hf
      have r1 := hr.const
      have r2 := hr.func
      try simp [Oper.looksAt, Op.operands, Call.operands, tput, frameW, Act.eval] at hf
      go_simp
      try rfl
    refine flow_yes_val 10 true 32 rfl rfl (fun v w h => by simpa [tput] using h) ?_
    apply Exists.intro
    apply And.intro
    · intro ρ w1 hr hf
      have r1 := hr.const
      have r2 := hr.func
      try simp [Oper.looksAt, Op.operands, Call.operands, tput, frameW, Act.eval] at hf
      go_simp
      try rfl
    refine flow_yes_val 10 true 32 rfl rfl (fun v w h => by simpa [tput] using h) ?_
    apply Exists.intro
    apply And.intro
    · intro ρ w1 hr hf
      have r1 := hr.const
      have r2 := hr.func
      try simp [Oper.looksAt, Op.operands, Call.operands, tput, frameW, Act.eval] at hf
      go_simp
      try rfl
    refine flow_yes (fun v _ => v = .int .u32 (x2 : Int)) 10 true 32 rfl rfl (fun v w h => by simpa [tput] using h) (fun _ _ _ h _ => h) ?_ ?_
    · intro ρ w1 hr hw hf
      have r2 := hr.func
      try simp [Oper.looksAt, Op.operands, Call.operands, tput, frameW, Act.eval] at hf
      have H9 := hide (go_flow (c := cp - k) (hD.below hw) (by unfold maxLen; omega) b2 X2.out)
      go_simp
      exact ⟨Below.refl _ _, unhide H9⟩
    refine flow_yes (fun v _ => v = .int .u32 (s : Int)) 10 true 32 rfl rfl (fun v w h => by simpa [tput] using h) (fun _ _ _ h _ => h) ?_ ?_
    · intro ρ w1 hr hw hf
      have r2 := hr.func
      try simp [Oper.looksAt, Op.operands, Call.operands, tput, frameW, Act.eval] at hf
      have H9 := hide (end_flow w1 b3 X3.out)
      go_simp
      exact ⟨Below.refl _ _, unhide H9⟩
    refine flow_yes_val 10 true 32 rfl rfl (fun v w h => by simpa [tput] using h) ?_
    apply Exists.intro
    apply And.intro
    · intro ρ w1 hr hf
      have r1 := hr.const
      have r2 := hr.func
      try simp [Oper.looksAt, Op.operands, Call.operands, tput, frameW, Act.eval] at hf
      go_simp
      try rfl
    refine flow_yes_val 10 true 32 rfl rfl (fun v w h => by simpa [tput] using h) ?_
    apply Exists.intro
    apply And.intro
    · intro ρ w1 hr hf
      have r1 := hr.const
      have r2 := hr.func
      try simp [Oper.looksAt, Op.operands, Call.operands, tput, frameW, Act.eval] at hf
      go_simp
      try rfl
    refine flow_val rfl ?_
    apply Exists.intro
    apply And.intro
    · intro ρ w1 hr hf
      have r1 := hr.const
      have r2 := hr.func
      try simp [Oper.looksAt, Op.operands, Call.operands, tput, frameW, Act.eval] at hf
      go_simp
      try rfl
    refine flow_val rfl ?_
    apply Exists.intro
    apply And.intro
    · intro ρ w1 hr hf
      have r1 := hr.const
      have r2 := hr.func
      try simp [Oper.looksAt, Op.operands, Call.operands, tput, frameW, Act.eval] at hf
      go_simp
      try rfl
    refine flow_nil ?_
    intro f w2 hb2 hf
    have h0 := hf 0
    have h5 := hf 5
    have h7 := hf 7
    have h8 := hf 8
    simp [tput, frameW, Act.eval] at h0 h5 h7 h8
    clear hf
    rw [show frameOf f _ _ = ⟨#[f 0, f 1, f 2, f 3, f 4, f 5, f 6, f 7, f 8, f 9, f 10, f 11, f 12, f 13, f 14, f 15, f 16, f 17, f 18, f 19, f 20, f 21, f 22, f 23, f 24, f 25, f 26, f 27, f 28, f 29, f 30, f 31, f 32, f 33, f 34, f 35, f 36, f 37, f 38, f 39, f 40, f 41, f 42, f 43, f 44, f 45, f 46, f 47, f 48, f 49, f 50, f 51, f 52, f 53, f 54, f 55, f 56, f 57, f 58, f 59, f 60, f 61], []⟩ from rfl, h0, h5, h7, h8]
    have hbz := hb1.trans (hb2.mono hs1)
    have hs2 := hbz.size
    have hA2 := hA1.below (hb2.mono hs1)
    have hI2 := hI.below hb2
    have hL2 : LentB w2 w.heap.size l := BlkB.later hL hb2
    clear hT hD hI hL hA1 hb1 hA
    go_wp2_with fail
    refine (sum_any _ 1 _ [l] _ _ (Ps.one _ rfl hI2 (by unfold maxLen; omega) hb2.size) (by decide)).mono ?_
    rintro e w' ⟨rfl, rfl⟩
    rw [HQ.out]
    have hb3 : Below w2.heap.size w2 (w2.alloc (.cells #[.slice A1 n cp] 22)) := (Below.refl _ _).alloc (Nat.le_refl _) _
    have hL3 : LentB (w2.alloc (.cells #[.slice A1 n cp] 22)) w.heap.size l := BlkB.later hL2 hb3
    have hA3 := hA2.below (hb3.mono hs2)
    have hbz3 := hbz.trans (hb3.mono hs2)
    have C1 := kept_any A n c _ l _ _ hA3 hL3 (by omega)
    rw [← HA1.out, ← HCP.out] at C1
    have C1' := hide C1
    clear C1 hL2 hA2 hI2 hL3 hA3 hb3
    go_wp2_with fail
    refine (unhide C1').mono ?_
    rintro e w4 ⟨rfl, hd4⟩
    have hbz4 := hbz3.trans (drawn_below hd4)
    have hs4 := hbz4.size
    go_wp2_with fail
    refine (awake2_any _).mono ?_
    rintro e w5 ⟨rfl, hb5⟩
    go_wp2
    go_ret
    exact ⟨rfl, hbz4.trans (hb5.mono hs4)⟩

/-! ### THE ROW's STEP -/
set_option maxRecDepth 100000 in
theorem lifted (os : Os) (started : os.Started) (H : Type) (enc : TypeId × Value → H) :
    ReturnsInHanded {} Try.checked os 3 .any (Rows.crcSumsSpec.pre6 enc Try.prog Try.f3 Rows.crcSumsRow.domain false) (Rows.crcSumsSpec.post enc Try.prog Try.f3 false true false false) := by
  refine returnsInHanded_of_change (C := Try.checked) own started (by kernel_rfl) Try.func3
    (ChangeSpec.witness6 (enc := enc) (C := Try.checked) false ⟨#[], #[.slice none 0 0, .int .i64 0], []⟩ 8 (by kernel_rfl) (by kernel_rfl) (by kernel_rfl) (by kernel_rfl)) ?_
  intro W base args ds gs before hval0 hW hcnd _
  have hval : ∀ (j : Nat) t v, Try.f3.params[j]? = some t → args[j]? = some v → Value.okWide Try.prog W .any base t v := hval0
  have hW' := hW
  obtain ⟨p, q, hA0, hV, rfl, hfz, hnd⟩ := hW
  have hA : DataW.TrodAll enc Try.prog W 0 (fun _ => true) true Try.f3.params.toList args.toList ds p := hA0
  rw [Try.params3] at hA hval
  obtain ⟨v0, vs0, d0, ds0, p0, q0, hargs, rfl, rfl, h0, r0⟩ := trodAll_cons hA
  obtain ⟨v1, vs1, d1, ds1, p1, q1, rfl, rfl, rfl, h1, r1⟩ := trodAll_cons r0
  obtain ⟨rfl, rfl, rfl⟩ := trodAll_nil r1
  obtain rfl : args = #[v0, v1] := by cases args; simp_all
  obtain ⟨rfl, rfl⟩ := trodVars_none hV
  have k0 := h0
  have lt0 : ∀ x ∈ p0, x.block < W.heap.size := by obtain ⟨m, hm⟩ := k0; exact DataW.trod_lt m _ _ _ hm
  obtain ⟨a0, len0, cap0, rfl⟩ := okWide_slice Try.underlying22 (hval 0 22 v0 rfl rfl)
  obtain ⟨z0, w0⟩ : ∃ zs, IsRow .u8 W a0 len0 cap0 zs := by
    obtain ⟨fuel, hf⟩ := h0
    rcases open_ints Try.underlying22 Try.underlying5 (by kernel_rfl) hf with ⟨hcs, _⟩ | ⟨x, l, c, zs, hcs, _, hl, hm, hz, _, hcell, hwz⟩
    · simp [Value.cells] at hcs
      obtain ⟨rfl, rfl, rfl⟩ := hcs
      exact ⟨[], .inl ⟨rfl, rfl, rfl, rfl⟩⟩
    · simp [Value.cells] at hcs
      obtain ⟨rfl, rfl, rfl⟩ := hcs
      exact ⟨zs, .inr ⟨_, rfl, hl, hm, by simpa using hz, hcell, hwz⟩⟩
  have b0 : ∀ x, a0 = some x → 0 < len0 → x.block < W.heap.size := isRow_block w0
  have k1 := h1
  have lt1 : ∀ x ∈ p1, x.block < W.heap.size := by obtain ⟨m, hm⟩ := k1; exact DataW.trod_lt m _ _ _ hm
  obtain ⟨a1, rfl, rfl, rfl, w1⟩ := open_int Try.underlying3 (hval 1 3 v1 rfl rfl) h1
  clear hA0 hval0
  refine (walk a0 len0 cap0 z0 a1 W w0 b0 w1).mono fun e W' ⟨he, bel⟩ => ?_
  subst he
  exact ⟨_, rfl, _, _, _, [], _, [], hW', trodAll_mk1 (shut_bool Try.underlying4 _), (trodAll_cons_mk (Below.trod laidOut (by kernel_rfl) (of_decide_eq_true (by kernel_rfl)) k0 bel lt0) (trodAll_cons_mk (Below.trod laidOut (by kernel_rfl) (of_decide_eq_true (by kernel_rfl)) k1 bel lt1) trodAll_mk0)), rfl, bel.frame _, fun h => by cases h⟩

theorem over : Rows.crcSumsRow.holds Try.pinned (OpenSpec.ofChange Rows.crcSumsSpec) :=
  OpenClaim.holds_of_wide 3 Try.f3 rfl rfl rfl rfl rfl rfl rfl ⟨rfl, rfl, rfl, rfl, rfl⟩ rfl rfl rfl rfl rfl (by kernel_rfl) Try.func3 (by kernel_rfl)
    (of_decide_eq_true (by kernel_rfl)) (by unfold Func.isWrapper; first | (rw [if_pos (by decide +kernel)]; kernel_rfl) | (rw [if_neg (by decide +kernel)]; exact ⟨rfl, rfl⟩))
    (fun os started H enc _ => lifted os started H enc)

theorem proved : Rows.CrcSumsSaid := over
#print axioms proved
end Go.Proofs.Ytcfindjjcghhkaa.crcSums
