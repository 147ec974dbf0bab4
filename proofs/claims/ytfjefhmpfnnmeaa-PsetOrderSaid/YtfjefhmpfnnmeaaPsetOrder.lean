/-
  The law choraguslaw04.PsetOrder answers true, and does not panic, for every argument that its row allows. Conditions: none but the row's own.
-/
import Derived.Test.YtfjefhmpfnnmeaaRows
import Derived.WalkKit
import Derived.ProofKit
import Derived.OpenShut
import Derived.ShutString
import Derived.ChangeOld
import Derived.Below
import Derived.Test.YtfjefhmpfnnmeaaOpen
import Derived.Test.YtfjefhmpfnnmeaaOpenP
import Derived.Test.YtfjefhmpfnnmeaaSet10
import Derived.Test.YtfjefhmpfnnmeaaPick
namespace Go.Proofs.Ytfjefhmpfnnmeaa.psetOrder
open Go.ChangeShapes Go.WideShapes Go.ChangeAt Go.RowKit
open Go.ChangeMaps (open_string shut_string)
set_option linter.unusedVariables false
set_option linter.unusedSimpArgs false

set_option maxRecDepth 100000 in
theorem walk (A : Option Addr) (n c : Nat) (l : List Pr) (x : Int) (w : World) (w0 : Ps0 w A n c l) (w1 : (Lit.int .i64 x).wf = true) :
    Calls Try.prog 5 #[.slice A n c, .int .i64 x] w fun e w' => e = .returned (.bool true) ∧ Below w.heap.size w w' := by
  obtain ⟨hA, hnc, hcm⟩ := w0
  unfold maxLen at hcm
  have hx := wf_i64 w1
  clear w1
  by_cases h6 : 60 < n
  · go_enter Try.func5, Try.ntmps5
    go_wp2_with fail
    refine (awake4_any _).mono ?_
    rintro e w' ⟨rfl, hb⟩
    go_wp2
    go_ret
    exact ⟨rfl, hb⟩
  · have c0 := fun W => pick_any x ((n : Int) + 1) W hx.1 hx.2 (by omega) (by omega)
    obtain ⟨k, hk⟩ : ∃ k : Nat, pickF x ((n : Int) + 1) = (k : Int) := Int.eq_ofNat_of_zero_le (pickF_bd (a := x) (n := (n : Int) + 1) (by omega)).1
    have hkn : k ≤ n := by have := (pickF_bd (a := x) (n := (n : Int) + 1) (by omega)).2; rw [hk] at this; omega
    rw [hk] at c0
    clear hk hx
    go_enter Try.func5, Try.ntmps5
    go_wp2_with fail
    refine (c0 _).mono ?_
    rintro e w1 ⟨rfl, rfl⟩
    clear c0
    go_wp2_with fail
    have e1 : n - 0 = n := rfl
    refine wp_region_flow (by kernel_rfl) (by kernel_rfl) (by kernel_rfl) ?_
    refine flow_step (RowW w.heap.size n l) rfl (rowW_steady _ _ _) ?_ ?_
    · intro ρ w8 hr hw hf
      try simp [Oper.looksAt, Op.operands, Call.operands, tput, frameW, Act.eval] at hf
      go_simp
      exact ⟨Below.refl _ _, A, c, rfl, hA.below hw, hw.size⟩
    refine flow_step (SetW w.heap.size (dedup l)) rfl (setW_steady _ _) ?_ ?_
    · intro ρ w8 hr hw hf
      have r2 := hr.func
      simp [Oper.looksAt, Op.operands, Call.operands, tput, frameW, Act.eval] at hf
      generalize hu : ρ (.tmp 17) = u9 at hf
      have CN := hide (new_word hf (by omega) hw.size)
      clear hf
      go_simp
      exact ⟨Below.refl _ _, unhide CN⟩
    refine flow_val rfl ?_
    apply Exists.intro
    apply And.intro
    · intro ρ w8 hr hf
      have r1 := hr.const
      have r2 := hr.func
      try simp [Oper.looksAt, Op.operands, Call.operands, tput, frameW, Act.eval] at hf
      go_simp
      try rfl
    refine flow_val rfl ?_
    apply Exists.intro
    apply And.intro
    · intro ρ w8 hr hf
      have r1 := hr.const
      have r2 := hr.func
      try simp [Oper.looksAt, Op.operands, Call.operands, tput, frameW, Act.eval] at hf
      go_simp
      try rfl
    refine flow_step (RowW w.heap.size (n - k) (l.drop k)) rfl (rowW_steady _ _ _) ?_ ?_
    · intro ρ w8 hr hw hf
      simp [Oper.looksAt, Op.operands, Call.operands, tput, frameW, Act.eval] at hf
      go_simp
      refine ⟨Below.refl _ _, _, _, rfl, ?_, hw.size⟩
      have hA8 := hA.below hw
      by_cases hkk : k < n
      · rw [if_neg (by omega)]
        exact hA8.cut prOk hkn hkk
      · exact hA8.zero (by omega)
    refine flow_step (SetW w.heap.size (dedup (l.drop k))) rfl (setW_steady _ _) ?_ ?_
    · intro ρ w8 hr hw hf
      have r2 := hr.func
      simp [Oper.looksAt, Op.operands, Call.operands, tput, frameW, Act.eval] at hf
      generalize hu : ρ (.tmp 21) = u9 at hf
      have CN := hide (new_word hf (by omega) hw.size)
      clear hf
      go_simp
      exact ⟨Below.refl _ _, unhide CN⟩
    refine flow_step (SetW w.heap.size (dedup l)) rfl (setW_steady _ _) ?_ ?_
    · intro ρ w8 hr hw hf
      simp [Oper.looksAt, Op.operands, Call.operands, tput, frameW, Act.eval] at hf
      generalize hu : ρ (.tmp 18) = u9 at hf
      have CN := hide hf
      clear hf
      go_simp
      exact ⟨Below.refl _ _, unhide CN⟩
    refine flow_step (SetW w.heap.size (dedup (l.drop k))) rfl (setW_steady _ _) ?_ ?_
    · intro ρ w8 hr hw hf
      simp [Oper.looksAt, Op.operands, Call.operands, tput, frameW, Act.eval] at hf
      generalize hu : ρ (.tmp 22) = u9 at hf
      have CN := hide hf
      clear hf
      go_simp
      exact ⟨Below.refl _ _, unhide CN⟩
    refine flow_nil ?_
    intro f w9 hb9 hf
    have g0 := hf 0; simp [tput, frameW, Act.eval] at g0
    have g4 := hf 4; simp [tput, frameW, Act.eval] at g4
    have g5 := hf 5; simp [tput, frameW, Act.eval] at g5
    have g6 := hf 6; simp [tput, frameW, Act.eval] at g6
    have g7 := hf 7; simp [tput, frameW, Act.eval] at g7
    obtain ⟨b1, mg1, e6, hs1, hb1, hm1⟩ := g6
    obtain ⟨b2, mg2, e7, hs2, hb2, hm2⟩ := g7
    rw [show frameOf f _ _ = ⟨#[f 0, f 1, f 2, f 3, f 4, f 5, f 6, f 7, f 8, f 9, f 10, f 11, f 12, f 13, f 14, f 15, f 16, f 17, f 18, f 19, f 20, f 21, f 22, f 23, f 24, f 25, f 26, f 27, f 28, f 29, f 30, f 31, f 32, f 33, f 34, f 35, f 36, f 37, f 38, f 39, f 40, f 41, f 42, f 43, f 44, f 45, f 46, f 47, f 48, f 49, f 50, f 51, f 52, f 53, f 54, f 55, f 56, f 57], []⟩ from rfl, g0, g4, g5, e6, e7]
    have hA9 := hA.below hb9
    have hz9 := hb9.size
    have hl9 := hA9.len
    have hn1 := (hs1.nodup)
    have hd1 : ∀ p, p ∈ dedup l ↔ p ∈ l := mem_dedup l
    have hd2 : ∀ p, p ∈ dedup (l.drop k) ↔ p ∈ l.drop k := mem_dedup (l.drop k)
    have hlen1 := dedup_len l
    have hlen2 := dedup_len (l.drop k)
    have hdl : (l.drop k).length ≤ l.length := by simp
    clear hf e6 e7 g0 g4 g5
    generalize dedup l = a1 at *
    generalize dedup (l.drop k) = a2 at *
    have hin1 : ∀ p ∈ l.take k, p ∈ a1 := fun p hp => (hd1 p).2 (List.mem_of_mem_take hp)
    have hin2 : ∀ p ∈ l, p ∈ a1 := fun p hp => (hd1 p).2 hp
    have c1 := sunion_beside A k c w.heap.size hs1 hs2 (hA9.take prOk hkn) hz9 hb2 hm2 (by omega) (by omega) hin1
    have hnd2 := hs2.nodup
    clear hs1 hs2 hin1
    go_wp2_with fail
    refine c1.mono ?_
    rintro e wa ⟨⟨q1, rfl, hq1, mg3, hs2, ht, hm⟩, hs1⟩
    have hm3 := hm.base hm2 hz9
    have hba : Below w.heap.size w wa := hb9.trans (ht.below hz9 hb2 hm2)
    have hA9 := hA.below hba
    have hza := hba.size
    have hla : ((l.take k).foldl dedS a2).length ≤ 120 := by
      have h1 := (List.Perm.length_eq ((List.perm_ext_iff_of_nodup (hs2.nodup) hn1).2 fun p => by
        rw [mem_fold _ _ hnd2, hd2, hd1]
        constructor
        · exact fun h => h.elim List.mem_of_mem_take List.mem_of_mem_drop
        · intro h
          rw [← List.take_append_drop k l, List.mem_append] at h
          exact h))
      omega
    have hd3 : ∀ p, p ∈ (l.take k).foldl dedS a2 → p ∈ l := fun p hp => by
      rw [mem_fold _ _ hnd2, hd2] at hp
      exact hp.elim List.mem_of_mem_take List.mem_of_mem_drop
    clear ht hm hq1 c1 hd2 hm2 hz9 hb9 hlen2
    generalize (l.take k).foldl dedS a2 = a3 at *
    have c2 := sunion_beside A n c w.heap.size hs1 hs2 hA9 hza hb2 hm3 (by omega) (by omega) hin2
    have hnd3 := hs2.nodup
    clear hs1 hs2
    go_wp2_with fail
    refine c2.mono ?_
    rintro e wb ⟨⟨q2, rfl, hq2, mg4, hs2, ht, hm⟩, hs1⟩
    have hm4 := hm.base hm3 hza
    have hbb : Below w.heap.size w wb := hba.trans (ht.below hza hb2 hm3)
    have hsame : ∀ p, p ∈ l.foldl dedS a3 ↔ p ∈ a1 := fun p => by
      rw [mem_fold _ _ hnd3, hd1]
      exact ⟨fun h => h.elim id (hd3 p), .inl⟩
    clear ht hm hq2 c2 hm3 hza hba hd3
    generalize l.foldl dedS a3 = a4 at *
    have hleq : a4.length = a1.length := List.Perm.length_eq ((List.perm_ext_iff_of_nodup hs2.nodup hn1).2 hsame)
    have hsort : sortP a1 = sortP a4 := rising_ext _ _ (sortP_rising _) (sortP_rising _) fun p => by rw [mem_sortP, mem_sortP, hsame p]
    have c3 := slist_any b1 mg1 a1 wb hs1 (by omega)
    have c4 := fun W h => slist_any b2 mg4 a4 W h (by omega)
    rw [← hsort] at c4
    have hsl := sortP_len a1
    generalize sortP a1 = s at *
    obtain ⟨m, hm⟩ : ∃ m, m = s.length := ⟨_, rfl⟩
    unfold MakesP at c3 c4
    rw [← hm] at c3 c4 hsl
    have HS := hide (And.intro hsame (And.intro hleq (And.intro hd1 (And.intro hin2 hl9))))
    have hm9 : m ≤ 60 := by omega
    have ha9 : a1.length ≤ 60 := by omega
    clear hsame hleq hsort hd1 hin2 hm hl9 hnd3 hnd2 hn1 hlen1 hsl hla hdl
    go_wp2_with fail
    refine c3.mono ?_
    rintro e wc ⟨A3, c5, rfl, ho3, hb⟩
    have hs1 := hs1.later hb
    have hs2 := hs2.later hb
    have hbc := hbb.trans (hb.mono hbb.size)
    clear c3 hb hbb
    go_wp2_with fail
    refine (c4 _ hs2).mono ?_
    rintro e wd ⟨A4, c6, rfl, ho4, hb⟩
    have ho3 := OwnE.later ho3 hb
    have hs1 := hs1.later hb
    have hs2 := hs2.later hb
    have hbd := hbc.trans (hb.mono hbc.size)
    clear c4 hb hbc
    have cm := samep_eq A3 A4 m m c5 c6 s s _ _ wd (OwnE.es prOk ho3) (OwnE.es prOk ho4) (by unfold maxLen; omega) rfl
    clear ho3 ho4
    go_wp2_with fail
    refine cm.mono ?_
    rintro e we ⟨rfl, hd⟩
    have hb := drawn_below hd (B := wd.heap.size)
    have hs1 := hs1.later hb
    have hs2 := hs2.later hb
    have hbe := hbd.trans (hb.mono hbd.size)
    clear cm hb hd hbd
    have l1 := slen_any b1 mg1 a1 we hs1
    have l2 := slen_any b2 mg4 a4 we hs2
    rw [HS.out.2.1] at l2
    go_wp2_with fail
    refine l1.mono ?_
    rintro e _ ⟨rfl, rfl⟩
    go_wp2_with fail
    refine l2.mono ?_
    rintro e _ ⟨rfl, rfl⟩
    clear l1 l2
    have hAe := (hA.below hbe).more (B' := we.heap.size) hbe.size
    have c7 := sunion_in b1 mg1 a1 A n c l we.heap.size we hs1 hAe (Nat.le_refl _) (by unfold maxLen; omega) HS.out.2.2.2.1
    clear hAe
    have hqq : ∀ z : Nat, ((z : Int) == (z : Int)) = true := fun z => by simp
    go_wp2_with fail
    refine c7.mono ?_
    rintro e wg ⟨rfl, hb⟩
    have hs1 := hs1.later hb
    have hbg := hbe.trans (hb.mono hbe.size)
    clear c7 hb hbe hs2
    have hAg := (hA.below hbg).more (B' := wg.heap.size) hbg.size
    have c8 := skeep_any b1 mg1 a1 A n c l wg.heap.size wg hs1 hAg (Nat.le_refl _) (by omega) (by omega)
    have hmz := hb1
    clear hAg
    go_wp2_with fail
    refine c8.mono ?_
    rintro e wh ⟨q, rfl, hq, _, ht⟩
    have hq0 : q = 0 := by
      have e9 : (a1.filter fun p => decide (p ∈ l)) = a1 := List.filter_eq_self.2 fun p hp => decide_eq_true ((HS.out.2.2.1 p).1 hp)
      rw [e9] at hq
      omega
    subst hq0
    have hbh := hbg.trans (ht.below hbg.size hb1 hm1)
    clear c8 hq ht hbg hs1
    go_wp2_with fail
    refine (awake4_any _).mono ?_
    rintro e wi ⟨rfl, hb⟩
    have hbi := hbh.trans (hb.mono hbh.size)
    clear hb hbh
    go_wp2
    go_ret
    exact ⟨rfl, hbi⟩

/-! ### THE ROW's STEP -/
set_option maxRecDepth 100000 in
theorem lifted (os : Os) (started : os.Started) (H : Type) (enc : TypeId × Value → H) :
    ReturnsInHanded {} Try.checked os 5 .any (Rows.psetOrderSpec.pre6 enc Try.prog Try.f5 Rows.psetOrderRow.domain false) (Rows.psetOrderSpec.post enc Try.prog Try.f5 false true false false) := by
  refine returnsInHanded_of_change (C := Try.checked) own started (by kernel_rfl) Try.func5
    (ChangeSpec.witness6 (enc := enc) (C := Try.checked) false ⟨#[], #[.slice none 0 0, .int .i64 0], []⟩ 8 (by kernel_rfl) (by kernel_rfl) (by kernel_rfl) (by kernel_rfl)) ?_
  intro W base args ds gs before hval0 hW hcnd _
  have hval : ∀ (j : Nat) t v, Try.f5.params[j]? = some t → args[j]? = some v → Value.okWide Try.prog W .any base t v := hval0
  have hW' := hW
  obtain ⟨p, q, hA0, hV, rfl, hfz, hnd⟩ := hW
  have hA : DataW.TrodAll enc Try.prog W 0 (fun _ => true) true Try.f5.params.toList args.toList ds p := hA0
  rw [Try.params5] at hA hval
  obtain ⟨v0, vs0, d0, ds0, p0, q0, hargs, rfl, rfl, h0, r0⟩ := trodAll_cons hA
  obtain ⟨v1, vs1, d1, ds1, p1, q1, rfl, rfl, rfl, h1, r1⟩ := trodAll_cons r0
  obtain ⟨rfl, rfl, rfl⟩ := trodAll_nil r1
  obtain rfl : args = #[v0, v1] := by cases args; simp_all
  obtain ⟨rfl, rfl⟩ := trodVars_none hV
  have k0 := h0
  have lt0 : ∀ x ∈ p0, x.block < W.heap.size := by obtain ⟨m, hm⟩ := k0; exact DataW.trod_lt m _ _ _ hm
  obtain ⟨a0, len0, cap0, rfl⟩ := okWide_slice Try.underlying22 (hval 0 22 v0 rfl rfl)
  obtain ⟨z0, w0⟩ : ∃ l, Ps0 W a0 len0 cap0 l := by
    obtain ⟨fuel, hf⟩ := h0
    exact pids_row (open_pids hf) rfl
  have k1 := h1
  have lt1 : ∀ x ∈ p1, x.block < W.heap.size := by obtain ⟨m, hm⟩ := k1; exact DataW.trod_lt m _ _ _ hm
  obtain ⟨a1, rfl, rfl, rfl, w1⟩ := open_int Try.underlying3 (hval 1 3 v1 rfl rfl) h1
  clear hA0 hval0
  refine (walk a0 len0 cap0 z0 a1 W w0 w1).mono fun e W' ⟨he, bel⟩ => ?_
  subst he
  exact ⟨_, rfl, _, _, _, [], _, [], hW', trodAll_mk1 (shut_bool Try.underlying4 _), (trodAll_cons_mk (Below.trod laidOut (by kernel_rfl) (of_decide_eq_true (by kernel_rfl)) k0 bel lt0) (trodAll_cons_mk (Below.trod laidOut (by kernel_rfl) (of_decide_eq_true (by kernel_rfl)) k1 bel lt1) trodAll_mk0)), rfl, bel.frame _, fun h => by cases h⟩

theorem over : Rows.psetOrderRow.holds Try.pinned (OpenSpec.ofChange Rows.psetOrderSpec) :=
  OpenClaim.holds_of_wide 5 Try.f5 rfl rfl rfl rfl rfl rfl rfl ⟨rfl, rfl, rfl, rfl, rfl⟩ rfl rfl rfl rfl rfl (by kernel_rfl) Try.func5 (by kernel_rfl)
    (of_decide_eq_true (by kernel_rfl)) (by unfold Func.isWrapper; first | (rw [if_pos (by decide +kernel)]; kernel_rfl) | (rw [if_neg (by decide +kernel)]; exact ⟨rfl, rfl⟩))
    (fun os started H enc _ => lifted os started H enc)

theorem proved : Rows.PsetOrderSaid := over
#print axioms proved
end Go.Proofs.Ytfjefhmpfnnmeaa.psetOrder
