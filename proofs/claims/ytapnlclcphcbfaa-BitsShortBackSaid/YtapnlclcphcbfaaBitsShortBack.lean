/-
  The law choraguslaw01.BitsShortBack answers true, and does not panic, for every argument that its row allows. Conditions: none but the row's own.
-/
import Derived.Test.YtapnlclcphcbfaaRows
import Derived.WalkKit
import Derived.ProofKit
import Derived.OpenShut
import Derived.ShutString
import Derived.ChangeOld
import Derived.Below
import Derived.Test.YtapnlclcphcbfaaOpen
import Derived.Test.YtapnlclcphcbfaaAwake1
import Derived.Test.YtapnlclcphcbfaaShort1
namespace Go.Proofs.Ytapnlclcphcbfaa.bitsShortBack
open Go.ChangeShapes Go.WideShapes Go.ChangeAt Go.RowKit
open Go.ChangeMaps (open_string shut_string)
set_option linter.unusedVariables false
set_option linter.unusedSimpArgs false

set_option maxRecDepth 100000 in
theorem walk (a0 a1 : Int) (A : Option Addr) (n c : Nat) (zs : List Int) (w : World) (w0 : (Lit.int .u64 a0).wf = true) (w1 : (Lit.int .u64 a1).wf = true) (w2 : IsRow .u8 w A n c zs) (_b : ∀ x, A = some x → 0 < n → x.block < w.heap.size) :
    Calls Try.prog 7 #[.int .u64 a0, .int .u64 a1, .slice A n c] w fun e w' => e = .returned (.bool true) ∧ Below w.heap.size w w' := by
  obtain ⟨l, hA, hnc, hc⟩ := isRow_bytes w2
  have b0 := wf_u64 w0
  have b1 := wf_u64 w1
  clear w0 w1 w2 _b
  obtain ⟨x, rfl⟩ := Int.eq_ofNat_of_zero_le b0.1
  obtain ⟨y, rfl⟩ := Int.eq_ofNat_of_zero_le b1.1
  have hx : x < 18446744073709551616 := by omega
  have hy : y < 18446744073709551616 := by omega
  have HX := hide hx
  have HY := hide hy
  clear b0 b1 hx hy
  unfold maxLen at hc
  by_cases h2 : 2000 < n
  · go_enter Try.func7, Try.ntmps7
    go_wp2_with fail
    refine (awake_any _).mono ?_
    rintro e w' ⟨rfl, hb⟩
    go_wp2
    go_ret
    exact ⟨rfl, hb⟩
  · have hlen := hA.len
    have HL := hide hlen
    clear hlen
    obtain ⟨f, hf⟩ : ∃ f, f = shortL x := ⟨_, rfl⟩
    obtain ⟨fl, hfl⟩ : ∃ k, k = (shortL x).length := ⟨_, rfl⟩
    obtain ⟨gl, hgl⟩ : ∃ k, k = (shortL y).length := ⟨_, rfl⟩
    have C1 := hide (putShort_any none 0 0 [] 0 x w Bs.none_ (Nat.zero_le _) (by decide) HX.out)
    have hfl10 : fl ≤ 10 := by rw [hfl]; exact (shortL_len x).2
    have hgl10 : gl ≤ 10 := by rw [hgl]; exact (shortL_len y).2
    have hmono : x ≤ y → fl ≤ gl := fun h => by rw [hfl, hgl]; exact shortL_mono x y h
    have hget : getF (f ++ l) = (x, fl, 0) := by rw [hf, hfl]; exact getF_short x l HX.out
    rw [← hf, ← (hf ▸ hfl : fl = f.length)] at C1
    simp only [Nat.zero_add, List.nil_append] at C1
    have HG := hide hget
    have HM := hide hmono
    have HGL := hide hgl
    clear hget hmono hf hfl hgl
    go_enter Try.func7, Try.ntmps7
    go_wp2_with fail
    refine (unhide C1).mono ?_
    rintro e w1 ⟨rfl, hown, hb1, hlt1⟩
    have hA1 := hA.below hb1
    go_wp2_with (at_builtin; refine wp_bytes_own _ rfl (.tmp 19) (.tmp 20) rfl w1.heap.size 0 _ [] rfl (own_lit w1 _ 0 [] _ rfl rfl (by decide) (Nat.le_refl _)) _ _ fl _ f rfl (hown.alloc _).bs (by omega) w1.heap.size w1 ((Below.refl _ _).alloc (Nat.le_refl _) _) (Nat.le_refl _) (by simp) ?_)
    intro A3 c3 w3 hcat hb3 hsz3
    have hA3 := hA1.below (hb3.mono (by omega))
    go_wp2_with (at_builtin; refine wp_bytes_own _ rfl (.tmp 21) (.tmp 22) rfl w1.heap.size fl _ f rfl hcat _ _ n _ l rfl hA3 (by omega) w1.heap.size w1 hb3 (Nat.le_refl _) (by omega) ?_)
    intro A4 c4 w4 hcat4 hb4 hsz4
    have hb14 := hb1.trans (hb4.mono (by omega))
    have hs4 := hb14.size
    clear hA1 hA3 hcat hb3 hb1 hown hb4
    go_wp2_with fail
    refine (getShort_any _ _ _ _ _ _ hcat4.bs (by unfold maxLen; omega)).mono ?_
    rintro e w5 ⟨rfl, rfl⟩
    rw [HG.out]
    clear hcat4
    go_wp2_with fail
    refine (putShort_any none 0 0 [] 0 y _ Bs.none_ (Nat.zero_le _) (by decide) HY.out).mono ?_
    rintro e w6 ⟨rfl, hown6, hb6, hlt6⟩
    rw [← HGL.out]
    have hb16 := hb14.trans (hb6.mono hs4)
    have hs6 := hb16.size
    clear hb6 hown6 hb14
    have t1 : ((x : Int) == (x : Int)) = true := by simp
    have t2 : ((fl : Int) == (fl : Int)) = true := by simp
    by_cases hxy : x ≤ y
    · have hle := HM.out hxy
      go_wp2_with fail
      refine (awake_any _).mono ?_
      rintro e w7 ⟨rfl, hb7⟩
      go_wp2
      go_ret
      exact ⟨rfl, hb16.trans (hb7.mono hs6)⟩
    · have hlt : y < x := by omega
      go_wp2_with fail
      refine (awake_any _).mono ?_
      rintro e w7 ⟨rfl, hb7⟩
      go_wp2
      go_ret
      exact ⟨rfl, hb16.trans (hb7.mono hs6)⟩

/-! ### THE ROW's STEP -/
set_option maxRecDepth 100000 in
theorem lifted (os : Os) (started : os.Started) (H : Type) (enc : TypeId × Value → H) :
    ReturnsInHanded {} Try.checked os 7 .any (Rows.bitsShortBackSpec.pre6 enc Try.prog Try.f7 Rows.bitsShortBackRow.domain false) (Rows.bitsShortBackSpec.post enc Try.prog Try.f7 false true false false) := by
  refine returnsInHanded_of_change (C := Try.checked) own started (by kernel_rfl) Try.func7
    (ChangeSpec.witness6 (enc := enc) (C := Try.checked) false ⟨#[], #[.int .u64 0, .int .u64 0, .slice none 0 0], []⟩ 8 (by kernel_rfl) (by kernel_rfl) (by kernel_rfl) (by kernel_rfl)) ?_
  intro W base args ds gs before hval0 hW hcnd _
  have hval : ∀ (j : Nat) t v, Try.f7.params[j]? = some t → args[j]? = some v → Value.okWide Try.prog W .any base t v := hval0
  have hW' := hW
  obtain ⟨p, q, hA0, hV, rfl, hfz, hnd⟩ := hW
  have hA : DataW.TrodAll enc Try.prog W 0 (fun _ => true) true Try.f7.params.toList args.toList ds p := hA0
  rw [Try.params7] at hA hval
  obtain ⟨v0, vs0, d0, ds0, p0, q0, hargs, rfl, rfl, h0, r0⟩ := trodAll_cons hA
  obtain ⟨v1, vs1, d1, ds1, p1, q1, rfl, rfl, rfl, h1, r1⟩ := trodAll_cons r0
  obtain ⟨v2, vs2, d2, ds2, p2, q2, rfl, rfl, rfl, h2, r2⟩ := trodAll_cons r1
  obtain ⟨rfl, rfl, rfl⟩ := trodAll_nil r2
  obtain rfl : args = #[v0, v1, v2] := by cases args; simp_all
  obtain ⟨rfl, rfl⟩ := trodVars_none hV
  have k0 := h0
  have lt0 : ∀ x ∈ p0, x.block < W.heap.size := by obtain ⟨m, hm⟩ := k0; exact DataW.trod_lt m _ _ _ hm
  obtain ⟨a0, rfl, rfl, rfl, w0⟩ := open_int Try.underlying23 (hval 0 23 v0 rfl rfl) h0
  have k1 := h1
  have lt1 : ∀ x ∈ p1, x.block < W.heap.size := by obtain ⟨m, hm⟩ := k1; exact DataW.trod_lt m _ _ _ hm
  obtain ⟨a1, rfl, rfl, rfl, w1⟩ := open_int Try.underlying23 (hval 1 23 v1 rfl rfl) h1
  have k2 := h2
  have lt2 : ∀ x ∈ p2, x.block < W.heap.size := by obtain ⟨m, hm⟩ := k2; exact DataW.trod_lt m _ _ _ hm
  obtain ⟨a2, len2, cap2, rfl⟩ := okWide_slice Try.underlying22 (hval 2 22 v2 rfl rfl)
  obtain ⟨z2, w2⟩ : ∃ zs, IsRow .u8 W a2 len2 cap2 zs := by
    obtain ⟨fuel, hf⟩ := h2
    rcases open_ints Try.underlying22 Try.underlying5 (by kernel_rfl) hf with ⟨hcs, _⟩ | ⟨x, l, c, zs, hcs, _, hl, hm, hz, _, hcell, hwz⟩
    · simp [Value.cells] at hcs
      obtain ⟨rfl, rfl, rfl⟩ := hcs
      exact ⟨[], .inl ⟨rfl, rfl, rfl, rfl⟩⟩
    · simp [Value.cells] at hcs
      obtain ⟨rfl, rfl, rfl⟩ := hcs
      exact ⟨zs, .inr ⟨_, rfl, hl, hm, by simpa using hz, hcell, hwz⟩⟩
  have b2 : ∀ x, a2 = some x → 0 < len2 → x.block < W.heap.size := isRow_block w2
  clear hA0 hval0
  refine (walk a0 a1 a2 len2 cap2 z2 W w0 w1 w2 b2).mono fun e W' ⟨he, bel⟩ => ?_
  subst he
  exact ⟨_, rfl, _, _, _, [], _, [], hW', trodAll_mk1 (shut_bool Try.underlying4 _), (trodAll_cons_mk (Below.trod laidOut (by kernel_rfl) (of_decide_eq_true (by kernel_rfl)) k0 bel lt0) (trodAll_cons_mk (Below.trod laidOut (by kernel_rfl) (of_decide_eq_true (by kernel_rfl)) k1 bel lt1) (trodAll_cons_mk (Below.trod laidOut (by kernel_rfl) (of_decide_eq_true (by kernel_rfl)) k2 bel lt2) trodAll_mk0))), rfl, bel.frame _, fun h => by cases h⟩

theorem over : Rows.bitsShortBackRow.holds Try.pinned (OpenSpec.ofChange Rows.bitsShortBackSpec) :=
  OpenClaim.holds_of_wide 7 Try.f7 rfl rfl rfl rfl rfl rfl rfl ⟨rfl, rfl, rfl, rfl, rfl⟩ rfl rfl rfl rfl rfl (by kernel_rfl) Try.func7 (by kernel_rfl)
    (of_decide_eq_true (by kernel_rfl)) (by unfold Func.isWrapper; first | (rw [if_pos (by decide +kernel)]; kernel_rfl) | (rw [if_neg (by decide +kernel)]; exact ⟨rfl, rfl⟩))
    (fun os started H enc _ => lifted os started H enc)

theorem proved : Rows.BitsShortBackSaid := over
#print axioms proved
end Go.Proofs.Ytapnlclcphcbfaa.bitsShortBack
