/-
  The law choraguslaw02.CrcMixes answers true, and does not panic, for every argument that its row allows. Conditions: none but the row's own.
-/
import Derived.Test.YtcfindjjcghhkaaRows
import Derived.WalkKit
import Derived.ProofKit
import Derived.OpenShut
import Derived.ShutString
import Derived.ChangeOld
import Derived.Below
import Derived.Test.YtcfindjjcghhkaaOpen
import Derived.Test.YtcfindjjcghhkaaCrc2
import Derived.Test.YtcfindjjcghhkaaFlow
import Derived.Test.YtcfindjjcghhkaaReg1
namespace Go.Proofs.Ytcfindjjcghhkaa.crcMixes
open Go.ChangeShapes Go.WideShapes Go.ChangeAt Go.RowKit
open Go.ChangeMaps (open_string shut_string)
set_option linter.unusedVariables false
set_option linter.unusedSimpArgs false

theorem mix3_get : ∀ (la lb lc : List UInt8) (k : Nat) (h : k < (mix3 la lb lc).length) (ha : k < la.length) (hb : k < lb.length) (hc : k < lc.length), (mix3 la lb lc)[k] = la[k] ^^^ lb[k] ^^^ lc[k]
  | x :: l, y :: m, z :: n, 0, _, _, _, _ => rfl
  | x :: l, y :: m, z :: n, k + 1, h, ha, hb, hc => mix3_get l m n k (by simpa [mix3] using h) (by simpa using ha) (by simpa using hb) (by simpa using hc)
theorem u8_xor3 (x y z : UInt8) : bits .xor .u8 (bits .xor .u8 (x.toNat : Int) (y.toNat : Int)) (z.toNat : Int) = ((x ^^^ y ^^^ z).toNat : Int) := by
  have h := x.toNat_lt
  have h' := y.toNat_lt
  have hlt : x.toNat ^^^ y.toNat < 256 := Nat.xor_lt_two_pow (n := 8) h h'
  rw [u8_xor_nat _ _ h h', u8_xor_nat _ _ hlt z.toNat_lt, UInt8.toNat_xor, UInt8.toNat_xor]
theorem mix3_len : ∀ (la lb lc : List UInt8), la.length = lb.length → lb.length = lc.length → (mix3 la lb lc).length = la.length
  | [], [], [], _, _ => rfl
  | x :: l, y :: m, z :: n, h1, h2 => by simp [mix3, mix3_len l m n (by simpa using h1) (by simpa using h2)]
set_option maxHeartbeats 1000000 in
set_option maxRecDepth 100000 in
theorem walk (A : Option Addr) (n c : Nat) (zs : List Int) (A' : Option Addr) (n' c' : Nat) (zs' : List Int) (A'' : Option Addr) (n'' c'' : Nat) (zs'' : List Int) (w : World)
    (w0 : IsRow .u8 w A n c zs) (_b : ∀ x, A = some x → 0 < n → x.block < w.heap.size) (w0' : IsRow .u8 w A' n' c' zs') (_b' : ∀ x, A' = some x → 0 < n' → x.block < w.heap.size) (w0'' : IsRow .u8 w A'' n'' c'' zs'') (_b'' : ∀ x, A'' = some x → 0 < n'' → x.block < w.heap.size) :
    Calls Try.prog 7 #[.slice A n c, .slice A' n' c', .slice A'' n'' c''] w fun e w' => e = .returned (.bool true) ∧ Below w.heap.size w w' := by
  obtain ⟨l, hA, hnc, hc⟩ := isRow_bytes w0
  obtain ⟨l', hA', hnc', hc'⟩ := isRow_bytes w0'
  obtain ⟨l'', hA'', hnc'', hc''⟩ := isRow_bytes w0''
  clear w0 _b w0' _b' w0'' _b''
  unfold maxLen at hc hc' hc''
  obtain ⟨m, hm, h1, h2, h3⟩ : ∃ m : Nat, min (n : Int) (min (n' : Int) (n'' : Int)) = (m : Int) ∧ m ≤ n ∧ m ≤ n' ∧ m ≤ n'' := ⟨min n (min n' n''), by omega, by omega, by omega, by omega⟩
  have hmin : ∀ w : World, (Builtin.min_ #[3, 3, 3] 3 #[.int .i64 (n : Int), .int .i64 (n' : Int), .int .i64 (n'' : Int)]).run Try.prog w = .ok (.int .i64 (m : Int)) w := by
    intro w
    have e : (if (n'' : Int) < (if (n' : Int) < n then (n' : Int) else n) then (n'' : Int) else (if (n' : Int) < n then (n' : Int) else n)) = (m : Int) := by
      split <;> split <;> omega
    simp [Builtin.min_, Builtin.min2]
    simpa using e
  clear hm
  by_cases hbig : 1000 < m
  · go_enter Try.func7, Try.ntmps7
    go_wp2_with fail
    refine (awake2_any _).mono ?_
    rintro e w' ⟨rfl, hb⟩
    go_wp2
    go_ret
    exact ⟨rfl, hb⟩
  · have hT := hA.take h1
    have hT' := hA'.take h2
    have hT'' := hA''.take h3
    obtain ⟨M, hM⟩ : ∃ M, M = mix3 (l.take m) (l'.take m) (l''.take m) := ⟨_, rfl⟩
    have hMl : M.length = m := by rw [hM, mix3_len _ _ _ (by rw [hT.len, hT'.len]) (by rw [hT'.len, hT''.len]), hT.len]
    have hmk := fun W => mk_bytes m m (m : Int) rfl (Nat.le_refl _) (by omega) W
    have HM := hide hM
    have HL := hide hMl
    clear hM hMl
    go_enter Try.func7, Try.ntmps7
    go_wp2
    go_loopw [9] (fun i wr => ∃ k : Nat, k ≤ m ∧ i = .int .i64 k ∧ BlkB wr w.heap.size (fillT M k) ∧ Below w.heap.size w wr) (fun i _ => m - (intOf i).toNat)
    case atStart =>
      refine ⟨0, Nat.zero_le _, rfl, ?_, (Below.refl _ _).alloc (Nat.le_refl _) _⟩
      rw [fillT_zero, HL.out]
      exact BlkB.new w _
    case round =>
      obtain ⟨k, hk, rfl, hblk, hb⟩ := hrel
      by_cases hlt : k < m
      · have hMk : k < M.length := by rw [HL.out]; exact hlt
        obtain ⟨ad, hl, rfl, hbl, hc1⟩ := hT.at_ hlt
        obtain ⟨ad', hl', rfl, hbl', hc2⟩ := hT'.at_ hlt
        obtain ⟨ad'', hl'', rfl, hbl'', hc3⟩ := hT''.at_ hlt
        have hcell : wr.cell? ⟨w.heap.size, k, none⟩ = some (.int .u8 0) := by rw [hblk.cell, fillT_at _ _ hMk]
        have hfr := hblk.frozen k
        have d1 := (hb.cell (by rw [block_of_add]; omega)).trans hc1
        have d2 := (hb.cell (by rw [block_of_add]; omega)).trans hc2
        have d3 := (hb.cell (by rw [block_of_add]; omega)).trans hc3
        have hget : M[k] = (l.take m)[k] ^^^ (l'.take m)[k] ^^^ (l''.take m)[k] := by
          have e := mix3_get (l.take m) (l'.take m) (l''.take m) k (by rw [← HM.out]; exact hMk) hl hl' hl''
          rw [← e]
          congr 1
          try exact HM.out
        have hv := u8_xor3 (l.take m)[k] (l'.take m)[k] (l''.take m)[k]
        have hn2 := hblk.set_ k (byteV M[k])
        rw [fillT_step _ _ hMk] at hn2
        have hb2 := hb.setCell (p := ⟨w.heap.size, k, none⟩) (Nat.le_refl _) (byteV M[k])
        rw [hget, byteV, ← hv] at hn2 hb2
        unfold byteV at d1 d2 d3
        have HC := hide hblk
        clear hc1 hc2 hc3 hget hv hblk hb
        generalize (l.take m)[k].toNat = x1 at *
        generalize (l'.take m)[k].toNat = x2 at *
        generalize (l''.take m)[k].toNat = x3 at *
        have i0 : (0 : Int) ≤ (k : Int) := by omega
        have i1 : (k : Int) < (n : Int) := by omega
        have i2 : (k : Int) < (n' : Int) := by omega
        have i3 : (k : Int) < (n'' : Int) := by omega
        have s1 : ∀ (W : World) (v : Value), (W.setCell ⟨w.heap.size, k, none⟩ v).cell? (ad.add k) = W.cell? (ad.add k) := fun W v => World.cell?_setCell_other W _ _ v (fun e => by have := congrArg Addr.block e; rw [block_of_add] at this; simp at this; omega)
        have s2 : ∀ (W : World) (v : Value), (W.setCell ⟨w.heap.size, k, none⟩ v).cell? (ad'.add k) = W.cell? (ad'.add k) := fun W v => World.cell?_setCell_other W _ _ v (fun e => by have := congrArg Addr.block e; rw [block_of_add] at this; simp at this; omega)
        have s3 : ∀ (W : World) (v : Value), (W.setCell ⟨w.heap.size, k, none⟩ v).cell? (ad''.add k) = W.cell? (ad''.add k) := fun W v => World.cell?_setCell_other W _ _ v (fun e => by have := congrArg Addr.block e; rw [block_of_add] at this; simp at this; omega)
        go_wp2_with fail
        go_region_held3 (fun w' => w'.cell? (ad.add k) = some (.int .u8 x1) ∧ w'.cell? (ad'.add k) = some (.int .u8 x2) ∧ w'.cell? (ad''.add k) = some (.int .u8 x3)) (go_keep) (fail)
        clear s1 s2 s3
        go_wp2
        go_roundw
        case rel => exact ⟨k + 1, by omega, by go_num, BlkB.drewN hn2 1, below_drewN hb2 1⟩
        case measure => simp [intOf]; omega
      · obtain rfl : k = m := by omega
        have hML := HL.out
        have hft : (fillT M k).take k = bvs M := by
          have e := fillT_full M
          rw [hML] at e
          rw [List.take_of_length_le (by rw [fillT_len _ _ (by omega)]; omega), e]
        have hD : Bs wr wr.heap.size (some ⟨w.heap.size, 0, none⟩) k M :=
          (hblk.own (base := 0) (n := k) (c := k) (l := M) (Nat.zero_le _) (Nat.le_refl _) (by unfold maxLen; omega) (by rw [fillT_len _ _ (by omega)]; exact hML) hft hML).bs
        have hs := hb.size
        have hR := (hT.below hb).more hs
        have hR' := (hT'.below hb).more hs
        have hR'' := (hT''.below hb).more hs
        have HH := hide hML
        obtain ⟨s0, e0⟩ : ∃ s, sumN [M].flatten = s := ⟨_, rfl⟩
        obtain ⟨s1, e1⟩ : ∃ s, sumN [l.take k].flatten = s := ⟨_, rfl⟩
        obtain ⟨s2, e2⟩ : ∃ s, sumN [l'.take k].flatten = s := ⟨_, rfl⟩
        obtain ⟨s3, e3⟩ : ∃ s, sumN [l''.take k].flatten = s := ⟨_, rfl⟩
        have hx : ((s0 : Int) == bits .xor .u32 (bits .xor .u32 (s1 : Int) (s2 : Int)) (s3 : Int)) = true := by
          have b1 : s1 < 4294967296 := by rw [← e1]; exact sumN_lt _
          have b2 : s2 < 4294967296 := by rw [← e2]; exact sumN_lt _
          have b3 : s3 < 4294967296 := by rw [← e3]; exact sumN_lt _
          have b12 : s1 ^^^ s2 < 4294967296 := Nat.xor_lt_two_pow (n := 32) b1 b2
          rw [u32_xor_nat _ _ b1 b2, u32_xor_nat _ _ b12 b3, beq_iff_eq]
          congr 1
          rw [← e0, ← e1, ← e2, ← e3, HM.out]
          simp only [List.flatten_cons, List.flatten_nil, List.append_nil]
          exact sumN_mix _ _ _ (by rw [hR.len, hR'.len]) (by rw [hR'.len, hR''.len])
        have E0 := hide e0
        have E1 := hide e1
        have E2 := hide e2
        have E3 := hide e3
        clear e0 e1 e2 e3 hft
        clear hA hA' hA'' hT hT' hT'' hblk hML
        go_wp2_with fail
        have j1 : k ≤ c := by omega
        have j2 : k ≤ c' := by omega
        have j3 : k ≤ c'' := by omega
        refine wp_region_flow (by kernel_rfl) (by kernel_rfl) (by kernel_rfl) ?_
        refine flow_val rfl ?_
        apply Exists.intro
        apply And.intro
        · intro ρ w1 hr hf
          have r1 := hr.const
          have r2 := hr.func
          try simp [Oper.looksAt, Op.operands, Call.operands, tput, frameW, Act.eval] at hf
          go_simp
          try rfl
        refine flow_step (PartsW 1 [M]) rfl (fun _ _ _ h hb => h.steady hb) ?_ ?_
        · intro ρ w1 hr hw hf
          simp [Oper.looksAt, Op.operands, Call.operands, tput, frameW, Act.eval] at hf
          have hb9 := Bs.below hD hw
          have h9 := PartsW.one (c := k) 22 hb9 (by unfold maxLen; omega) hw.size
          clear hb9
          go_simp
          exact ⟨(Below.refl _ _).alloc (Nat.le_refl _) _, h9⟩
        refine flow_step (fun v _ => v = .int .u32 (s0 : Int)) rfl (fun _ _ _ h _ => h) ?_ ?_
        · intro ρ w1 hr hw hf
          have r2 := hr.func
          simp [Oper.looksAt, Op.operands, Call.operands, tput, frameW, Act.eval] at hf
          generalize hu : ρ (.tmp 45) = u9 at hf
          have h9 := parts_sum hf (by decide) (unhide E0)
          have H9 := hide h9
          clear hf h9
          go_simp
          exact ⟨Below.refl _ _, unhide H9⟩
        refine flow_val rfl ?_
        apply Exists.intro
        apply And.intro
        · intro ρ w1 hr hf
          have r1 := hr.const
          have r2 := hr.func
          try simp [Oper.looksAt, Op.operands, Call.operands, tput, frameW, Act.eval] at hf
          go_simp
          try rfl
        refine flow_val rfl ?_
        apply Exists.intro
        apply And.intro
        · intro ρ w1 hr hf
          have r1 := hr.const
          have r2 := hr.func
          try simp [Oper.looksAt, Op.operands, Call.operands, tput, frameW, Act.eval] at hf
          go_simp
          try rfl
        refine flow_val rfl ?_
        apply Exists.intro
        apply And.intro
        · intro ρ w1 hr hf
          have r1 := hr.const
          have r2 := hr.func
          try simp [Oper.looksAt, Op.operands, Call.operands, tput, frameW, Act.eval] at hf
          go_simp
          try rfl
        refine flow_step (PartsW 1 [l.take k]) rfl (fun _ _ _ h hb => h.steady hb) ?_ ?_
        · intro ρ w1 hr hw hf
          simp [Oper.looksAt, Op.operands, Call.operands, tput, frameW, Act.eval] at hf
          have hb9 := Bs.below hR hw
          have h9 := PartsW.one (c := c) 22 hb9 (by unfold maxLen; omega) hw.size
          clear hb9
          go_simp
          exact ⟨(Below.refl _ _).alloc (Nat.le_refl _) _, h9⟩
        refine flow_step (fun v _ => v = .int .u32 (s1 : Int)) rfl (fun _ _ _ h _ => h) ?_ ?_
        · intro ρ w1 hr hw hf
          have r2 := hr.func
          simp [Oper.looksAt, Op.operands, Call.operands, tput, frameW, Act.eval] at hf
          generalize hu : ρ (.tmp 50) = u9 at hf
          have h9 := parts_sum hf (by decide) (unhide E1)
          have H9 := hide h9
          clear hf h9
          go_simp
          exact ⟨Below.refl _ _, unhide H9⟩
        refine flow_val rfl ?_
        apply Exists.intro
        apply And.intro
        · intro ρ w1 hr hf
          have r1 := hr.const
          have r2 := hr.func
          try simp [Oper.looksAt, Op.operands, Call.operands, tput, frameW, Act.eval] at hf
          go_simp
          try rfl
        refine flow_val rfl ?_
        apply Exists.intro
        apply And.intro
        · intro ρ w1 hr hf
          have r1 := hr.const
          have r2 := hr.func
          try simp [Oper.looksAt, Op.operands, Call.operands, tput, frameW, Act.eval] at hf
          go_simp
          try rfl
        refine flow_val rfl ?_
        apply Exists.intro
        apply And.intro
        · intro ρ w1 hr hf
          have r1 := hr.const
          have r2 := hr.func
          try simp [Oper.looksAt, Op.operands, Call.operands, tput, frameW, Act.eval] at hf
          go_simp
          try rfl
        refine flow_step (PartsW 1 [l'.take k]) rfl (fun _ _ _ h hb => h.steady hb) ?_ ?_
        · intro ρ w1 hr hw hf
          simp [Oper.looksAt, Op.operands, Call.operands, tput, frameW, Act.eval] at hf
          have hb9 := Bs.below hR' hw
          have h9 := PartsW.one (c := c') 22 hb9 (by unfold maxLen; omega) hw.size
          clear hb9
          go_simp
          exact ⟨(Below.refl _ _).alloc (Nat.le_refl _) _, h9⟩
        refine flow_step (fun v _ => v = .int .u32 (s2 : Int)) rfl (fun _ _ _ h _ => h) ?_ ?_
        · intro ρ w1 hr hw hf
          have r2 := hr.func
          simp [Oper.looksAt, Op.operands, Call.operands, tput, frameW, Act.eval] at hf
          generalize hu : ρ (.tmp 55) = u9 at hf
          have h9 := parts_sum hf (by decide) (unhide E2)
          have H9 := hide h9
          clear hf h9
          go_simp
          exact ⟨Below.refl _ _, unhide H9⟩
        refine flow_val rfl ?_
        apply Exists.intro
        apply And.intro
        · intro ρ w1 hr hf
          have r1 := hr.const
          have r2 := hr.func
          try simp [Oper.looksAt, Op.operands, Call.operands, tput, frameW, Act.eval] at hf
          go_simp
          try rfl
        refine flow_val rfl ?_
        apply Exists.intro
        apply And.intro
        · intro ρ w1 hr hf
          have r1 := hr.const
          have r2 := hr.func
          try simp [Oper.looksAt, Op.operands, Call.operands, tput, frameW, Act.eval] at hf
          go_simp
          try rfl
        refine flow_val rfl ?_
        apply Exists.intro
        apply And.intro
        · intro ρ w1 hr hf
          have r1 := hr.const
          have r2 := hr.func
          try simp [Oper.looksAt, Op.operands, Call.operands, tput, frameW, Act.eval] at hf
          go_simp
          try rfl
        refine flow_val rfl ?_
        apply Exists.intro
        apply And.intro
        · intro ρ w1 hr hf
          have r1 := hr.const
          have r2 := hr.func
          try simp [Oper.looksAt, Op.operands, Call.operands, tput, frameW, Act.eval] at hf
          go_simp
          try rfl
        refine flow_step (PartsW 1 [l''.take k]) rfl (fun _ _ _ h hb => h.steady hb) ?_ ?_
        · intro ρ w1 hr hw hf
          simp [Oper.looksAt, Op.operands, Call.operands, tput, frameW, Act.eval] at hf
          have hb9 := Bs.below hR'' hw
          have h9 := PartsW.one (c := c'') 22 hb9 (by unfold maxLen; omega) hw.size
          clear hb9
          go_simp
          exact ⟨(Below.refl _ _).alloc (Nat.le_refl _) _, h9⟩
        refine flow_step (fun v _ => v = .int .u32 (s3 : Int)) rfl (fun _ _ _ h _ => h) ?_ ?_
        · intro ρ w1 hr hw hf
          have r2 := hr.func
          simp [Oper.looksAt, Op.operands, Call.operands, tput, frameW, Act.eval] at hf
          generalize hu : ρ (.tmp 61) = u9 at hf
          have h9 := parts_sum hf (by decide) (unhide E3)
          have H9 := hide h9
          clear hf h9
          go_simp
          exact ⟨Below.refl _ _, unhide H9⟩
        refine flow_val rfl ?_
        apply Exists.intro
        apply And.intro
        · intro ρ w1 hr hf
          have r1 := hr.const
          have r2 := hr.func
          try simp [Oper.looksAt, Op.operands, Call.operands, tput, frameW, Act.eval] at hf
          go_simp
          try rfl
        refine flow_val rfl ?_
        apply Exists.intro
        apply And.intro
        · intro ρ w1 hr hf
          have r1 := hr.const
          have r2 := hr.func
          try simp [Oper.looksAt, Op.operands, Call.operands, tput, frameW, Act.eval] at hf
          go_simp
          try rfl
        refine flow_val rfl ?_
        apply Exists.intro
        apply And.intro
        · intro ρ w1 hr hf
          have r1 := hr.const
          have r2 := hr.func
          try simp [Oper.looksAt, Op.operands, Call.operands, tput, frameW, Act.eval] at hf
          go_simp
          try rfl
        refine flow_yes (fun v _ => v = .bool true) 21 true 65 rfl rfl (fun v w h => by simpa [tput] using h) (fun _ _ _ h _ => h) ?_ ?_
        · intro ρ w1 hr hw hf
          have r2 := hr.func
          have H9 := hide (awake2_flow w1)
          clear hf
          go_simp
          exact ⟨Below.refl _ _, unhide H9⟩
        refine flow_val rfl ?_
        apply Exists.intro
        apply And.intro
        · intro ρ w1 hr hf
          have r1 := hr.const
          have r2 := hr.func
          try simp [Oper.looksAt, Op.operands, Call.operands, tput, frameW, Act.eval] at hf
          go_simp
          try rfl
        refine flow_val rfl ?_
        apply Exists.intro
        apply And.intro
        · intro ρ w1 hr hf
          have r1 := hr.const
          have r2 := hr.func
          try simp [Oper.looksAt, Op.operands, Call.operands, tput, frameW, Act.eval] at hf
          go_simp
          try rfl
        refine flow_nil ?_
        intro f w9 hb9 hf
        have h6 := hf 6
        simp [tput] at h6
        clear hf
        rw [show frameOf f _ _ = ⟨#[f 0, f 1, f 2, f 3, f 4, f 5, f 6, f 7, f 8, f 9, f 10, f 11, f 12, f 13, f 14, f 15, f 16, f 17, f 18, f 19, f 20, f 21, f 22, f 23, f 24, f 25, f 26, f 27, f 28, f 29, f 30, f 31, f 32, f 33, f 34, f 35, f 36, f 37, f 38, f 39, f 40, f 41, f 42, f 43, f 44, f 45, f 46, f 47, f 48, f 49, f 50, f 51, f 52, f 53, f 54, f 55, f 56, f 57, f 58, f 59, f 60, f 61, f 62, f 63, f 64, f 65, f 66, f 67], []⟩ from rfl, h6]
        have hs9 := hb9.size
        have hbz := hb.trans (hb9.mono hs)
        clear hR hR' hR'' hD hmin hmk
        go_wp2
        go_ret
        exact ⟨rfl, hbz⟩

/-! ### THE ROW's STEP -/
set_option maxRecDepth 100000 in
theorem lifted (os : Os) (started : os.Started) (H : Type) (enc : TypeId × Value → H) :
    ReturnsInHanded {} Try.checked os 7 .any (Rows.crcMixesSpec.pre6 enc Try.prog Try.f7 Rows.crcMixesRow.domain false) (Rows.crcMixesSpec.post enc Try.prog Try.f7 false true false false) := by
  refine returnsInHanded_of_change (C := Try.checked) own started (by kernel_rfl) Try.func7
    (ChangeSpec.witness6 (enc := enc) (C := Try.checked) false ⟨#[], #[.slice none 0 0, .slice none 0 0, .slice none 0 0], []⟩ 8 (by kernel_rfl) (by kernel_rfl) (by kernel_rfl) (by kernel_rfl)) ?_
  intro W base args ds gs before hval0 hW hcnd _
  have hval : ∀ (j : Nat) t v, Try.f7.params[j]? = some t → args[j]? = some v → Value.okWide Try.prog W .any base t v := hval0
  have hW' := hW
  obtain ⟨p, q, hA0, hV, rfl, hfz, hnd⟩ := hW
  have hA : DataW.TrodAll enc Try.prog W 0 (fun _ => true) true Try.f7.params.toList args.toList ds p := hA0
  rw [Try.params7] at hA hval
  obtain ⟨v0, vs0, d0, ds0, p0, q0, hargs, rfl, rfl, h0, r0⟩ := trodAll_cons hA
  obtain ⟨v1, vs1, d1, ds1, p1, q1, rfl, rfl, rfl, h1, r1⟩ := trodAll_cons r0
  obtain ⟨v2, vs2, d2, ds2, p2, q2, rfl, rfl, rfl, h2, r2⟩ := trodAll_cons r1
  obtain ⟨rfl, rfl, rfl⟩ := trodAll_nil r2
  obtain rfl : args = #[v0, v1, v2] := by cases args; simp_all
  obtain ⟨rfl, rfl⟩ := trodVars_none hV
  have k0 := h0
  have lt0 : ∀ x ∈ p0, x.block < W.heap.size := by obtain ⟨m, hm⟩ := k0; exact DataW.trod_lt m _ _ _ hm
  obtain ⟨a0, len0, cap0, rfl⟩ := okWide_slice Try.underlying22 (hval 0 22 v0 rfl rfl)
  obtain ⟨z0, w0⟩ : ∃ zs, IsRow .u8 W a0 len0 cap0 zs := by
    obtain ⟨fuel, hf⟩ := h0
    rcases open_ints Try.underlying22 Try.underlying5 (by kernel_rfl) hf with ⟨hcs, _⟩ | ⟨x, l, c, zs, hcs, _, hl, hm, hz, _, hcell, hwz⟩
    · simp [Value.cells] at hcs
      obtain ⟨rfl, rfl, rfl⟩ := hcs
      exact ⟨[], .inl ⟨rfl, rfl, rfl, rfl⟩⟩
    · simp [Value.cells] at hcs
      obtain ⟨rfl, rfl, rfl⟩ := hcs
      exact ⟨zs, .inr ⟨_, rfl, hl, hm, by simpa using hz, hcell, hwz⟩⟩
  have b0 : ∀ x, a0 = some x → 0 < len0 → x.block < W.heap.size := isRow_block w0
  have k1 := h1
  have lt1 : ∀ x ∈ p1, x.block < W.heap.size := by obtain ⟨m, hm⟩ := k1; exact DataW.trod_lt m _ _ _ hm
  obtain ⟨a1, len1, cap1, rfl⟩ := okWide_slice Try.underlying22 (hval 1 22 v1 rfl rfl)
  obtain ⟨z1, w1⟩ : ∃ zs, IsRow .u8 W a1 len1 cap1 zs := by
    obtain ⟨fuel, hf⟩ := h1
    rcases open_ints Try.underlying22 Try.underlying5 (by kernel_rfl) hf with ⟨hcs, _⟩ | ⟨x, l, c, zs, hcs, _, hl, hm, hz, _, hcell, hwz⟩
    · simp [Value.cells] at hcs
      obtain ⟨rfl, rfl, rfl⟩ := hcs
      exact ⟨[], .inl ⟨rfl, rfl, rfl, rfl⟩⟩
    · simp [Value.cells] at hcs
      obtain ⟨rfl, rfl, rfl⟩ := hcs
      exact ⟨zs, .inr ⟨_, rfl, hl, hm, by simpa using hz, hcell, hwz⟩⟩
  have b1 : ∀ x, a1 = some x → 0 < len1 → x.block < W.heap.size := isRow_block w1
  have k2 := h2
  have lt2 : ∀ x ∈ p2, x.block < W.heap.size := by obtain ⟨m, hm⟩ := k2; exact DataW.trod_lt m _ _ _ hm
  obtain ⟨a2, len2, cap2, rfl⟩ := okWide_slice Try.underlying22 (hval 2 22 v2 rfl rfl)
  obtain ⟨z2, w2⟩ : ∃ zs, IsRow .u8 W a2 len2 cap2 zs := by
    obtain ⟨fuel, hf⟩ := h2
    rcases open_ints Try.underlying22 Try.underlying5 (by kernel_rfl) hf with ⟨hcs, _⟩ | ⟨x, l, c, zs, hcs, _, hl, hm, hz, _, hcell, hwz⟩
    · simp [Value.cells] at hcs
      obtain ⟨rfl, rfl, rfl⟩ := hcs
      exact ⟨[], .inl ⟨rfl, rfl, rfl, rfl⟩⟩
    · simp [Value.cells] at hcs
      obtain ⟨rfl, rfl, rfl⟩ := hcs
      exact ⟨zs, .inr ⟨_, rfl, hl, hm, by simpa using hz, hcell, hwz⟩⟩
  have b2 : ∀ x, a2 = some x → 0 < len2 → x.block < W.heap.size := isRow_block w2
  clear hA0 hval0
  refine (walk a0 len0 cap0 z0 a1 len1 cap1 z1 a2 len2 cap2 z2 W w0 b0 w1 b1 w2 b2).mono fun e W' ⟨he, bel⟩ => ?_
  subst he
  exact ⟨_, rfl, _, _, _, [], _, [], hW', trodAll_mk1 (shut_bool Try.underlying4 _), (trodAll_cons_mk (Below.trod laidOut (by kernel_rfl) (of_decide_eq_true (by kernel_rfl)) k0 bel lt0) (trodAll_cons_mk (Below.trod laidOut (by kernel_rfl) (of_decide_eq_true (by kernel_rfl)) k1 bel lt1) (trodAll_cons_mk (Below.trod laidOut (by kernel_rfl) (of_decide_eq_true (by kernel_rfl)) k2 bel lt2) trodAll_mk0))), rfl, bel.frame _, fun h => by cases h⟩

theorem over : Rows.crcMixesRow.holds Try.pinned (OpenSpec.ofChange Rows.crcMixesSpec) :=
  OpenClaim.holds_of_wide 7 Try.f7 rfl rfl rfl rfl rfl rfl rfl ⟨rfl, rfl, rfl, rfl, rfl⟩ rfl rfl rfl rfl rfl (by kernel_rfl) Try.func7 (by kernel_rfl)
    (of_decide_eq_true (by kernel_rfl)) (by unfold Func.isWrapper; first | (rw [if_pos (by decide +kernel)]; kernel_rfl) | (rw [if_neg (by decide +kernel)]; exact ⟨rfl, rfl⟩))
    (fun os started H enc _ => lifted os started H enc)

theorem proved : Rows.CrcMixesSaid := over
#print axioms proved
end Go.Proofs.Ytcfindjjcghhkaa.crcMixes
