/-
  The law choraguslaw01.BitsHexes answers true, and does not panic, for every argument that its row allows. Conditions: none but the row's own.
-/
import Derived.Test.YtapnlclcphcbfaaRows
import Derived.WalkKit
import Derived.ProofKit
import Derived.OpenShut
import Derived.ShutString
import Derived.ChangeOld
import Derived.Below
import Derived.Test.YtapnlclcphcbfaaOpen
import Derived.Test.YtapnlclcphcbfaaAwake1
import Derived.Test.YtapnlclcphcbfaaHex2
namespace Go.Proofs.Ytapnlclcphcbfaa.bitsHexes
open Go.ChangeShapes Go.WideShapes Go.ChangeAt Go.RowKit
open Go.ChangeMaps (open_string shut_string)
set_option linter.unusedVariables false
set_option linter.unusedSimpArgs false

theorem un_some {w w' : World} {e : Ending} {r : List UInt8} (h : UnPost w (some r) e w') : ∃ A c, e = .returned (.tuple #[.slice A r.length c, .int .i64 0]) ∧ OwnB w' w.heap.size (.slice A r.length c) r.length r ∧ Below w.heap.size w w' := h
theorem un_none {w w' : World} {e : Ending} (h : UnPost w none e w') : e = .returned (.tuple #[.slice none 0 0, .int .i64 5]) ∧ Below w.heap.size w w' := h
set_option maxRecDepth 100000 in
theorem walk (A : Option Addr) (n c : Nat) (zs : List Int) (s : ByteArray) (w : World) (w0 : IsRow .u8 w A n c zs) (_b : ∀ x, A = some x → 0 < n → x.block < w.heap.size) (w1 : s.size ≤ maxLen) :
    Calls Try.prog 12 #[.slice A n c, .string s] w fun e w' => e = .returned (.bool true) ∧ Below w.heap.size w w' := by
  obtain ⟨l, hA, hnc, hc⟩ := isRow_bytes w0
  clear w0 _b
  unfold maxLen at hc w1
  by_cases h1 : 1000 < n
  · go_enter Try.func12, Try.ntmps12
    go_wp2_with fail
    refine (awake_any _).mono ?_
    rintro e w' ⟨rfl, hb⟩
    go_wp2
    go_ret
    exact ⟨rfl, hb⟩
  by_cases h2 : 1000 < s.size
  · go_enter Try.func12, Try.ntmps12
    go_wp2_with fail
    refine (awake_any _).mono ?_
    rintro e w' ⟨rfl, hb⟩
    go_wp2
    go_ret
    exact ⟨rfl, hb⟩
  have hlen := hA.len
  obtain ⟨t, ht⟩ : ∃ t : ByteArray, t = ⟨(hexL l).toArray⟩ := ⟨_, rfl⟩
  have htl : hexL l = t.data.toList := by rw [ht]
  have htz : t.size ≤ 2097152 := by
    have e : t.size = (hexL l).length := by rw [htl, Array.length_toList]; rfl
    rw [e, hexL_len]; omega
  have tt : (t.toList == t.toList) = true := by simp
  obtain ⟨S, hS⟩ : ∃ S, S = s.data.toList := ⟨_, rfl⟩
  have HL := hide hlen
  have HT := hide ht
  have HTL := hide htl
  have HTZ := hide htz
  have HS := hide hS
  clear hlen ht htl htz hS
  have C1 := fun w0 hA0 hB0 => hex_any A n c l w.heap.size w0 hA0 hB0 (by omega)
  have C2 := fun w0 hA0 => rhex_any A n c l w.heap.size w0 hA0 (by omega)
  rw [← HT.out] at C1 C2
  have HC1 := hide C1
  have HC2 := hide C2
  clear C1 C2
  have f0 : ((0 : Int) == 0) = true := by decide
  have f5 : ((5 : Int) == 5) = true := by decide
  cases hu : unhexL S with
  | none =>
    have HU := hide hu
    clear hu
    go_enter Try.func12, Try.ntmps12
    go_wp2_with fail
    refine (unhide HC1 _ hA (Nat.le_refl _)).mono ?_
    rintro e w1 ⟨rfl, hb1⟩
    go_wp2_with fail
    refine (unhex_any s S HS.out _ (by omega)).mono ?_
    rintro e w2 hp
    rw [HU.out] at hp
    obtain ⟨rfl, hb2⟩ := un_none hp
    clear hp
    go_wp2_with fail
    refine (runhex_any s S HS.out _ (by omega)).mono ?_
    rintro e w3 hp
    rw [HU.out] at hp
    obtain ⟨rfl, hb3⟩ := un_none hp
    clear hp
    go_wp2_with fail
    refine (unhex_any t (hexL l) HTL.out _ HTZ.out).mono ?_
    rintro e w4 hp
    rw [unhex_hex] at hp
    obtain ⟨A4, c4, rfl, hown4, hb4⟩ := un_some hp
    clear hp
    have hz1 := hb1.size
    have hz2 := hb2.size
    have hz3 := hb3.size
    have hb14 := ((hb1.trans (hb2.mono hz1)).trans (hb3.mono (by omega))).trans (hb4.mono (by omega))
    have hA4 := hA.below hb14
    clear hb1 hb2 hb3 hb4
    go_wp2_with fail
    refine (unhide HC2 _ hA4).mono ?_
    rintro e w5 ⟨rfl, hd5⟩
    have hz4 := hb14.size
    have hb5 := drawn_below (B := w4.heap.size) hd5
    have hb15 := hb14.trans (hb5.mono hz4)
    have hz5 := hb15.size
    have hown5 := hown4.later hb5
    clear hb5 hd5 hown4
    go_wp2_with fail
    refine (same_eq none none 0 0 0 0 [] [] 0 0 _ Bs.none_ Bs.none_ (by decide) rfl).mono ?_
    rintro e w6 ⟨rfl, hd6⟩
    have hb6 := drawn_below (B := w5.heap.size) hd6
    have hb16 := hb15.trans (hb6.mono hz5)
    have hz6 := hb16.size
    have hown6 := hown5.later hb6
    have hA6 := hA.below hb16
    clear hb6 hd6 hown5
    go_wp2_with fail
    refine (same_eq _ _ _ _ _ _ l l _ _ _ hown6.bs hA6 (by unfold maxLen; rw [HL.out]; omega) rfl).mono ?_
    rintro e w7 ⟨rfl, hd7⟩
    have hb7 := drawn_below (B := w6.heap.size) hd7
    have hb17 := hb16.trans (hb7.mono hz6)
    have hz7 := hb17.size
    clear hb7 hd7
    go_wp2_with fail
    refine (awake_any _).mono ?_
    rintro e w8 ⟨rfl, hb8⟩
    have hbz := hb17.trans (hb8.mono hz7)
    clear hb8
    go_wp2
    go_ret
    exact ⟨rfl, hbz⟩
  | some r =>
    have HU := hide hu
    clear hu
    go_enter Try.func12, Try.ntmps12
    go_wp2_with fail
    refine (unhide HC1 _ hA (Nat.le_refl _)).mono ?_
    rintro e w1 ⟨rfl, hb1⟩
    go_wp2_with fail
    refine (unhex_any s S HS.out _ (by omega)).mono ?_
    rintro e w2 hp
    rw [HU.out] at hp
    obtain ⟨A2, c2, rfl, hown2, hb2⟩ := un_some hp
    clear hp
    go_wp2_with fail
    refine (runhex_any s S HS.out _ (by omega)).mono ?_
    rintro e w3 hp
    rw [HU.out] at hp
    obtain ⟨A3, c3, rfl, hown3, hb3⟩ := un_some hp
    clear hp
    go_wp2_with fail
    refine (unhex_any t (hexL l) HTL.out _ HTZ.out).mono ?_
    rintro e w4 hp
    rw [unhex_hex] at hp
    obtain ⟨A4, c4, rfl, hown4, hb4⟩ := un_some hp
    clear hp
    have hz1 := hb1.size
    have hz2 := hb2.size
    have hz3 := hb3.size
    have ho2 := (hown2.later hb3).later hb4
    have ho3 := hown3.later hb4
    have hb14 := ((hb1.trans (hb2.mono hz1)).trans (hb3.mono (by omega))).trans (hb4.mono (by omega))
    have hA4 := hA.below hb14
    have hrl : r.length ≤ 2000 := by
      by_cases hev : s.size = 2 * (s.size / 2)
      · have := unhex_len (s.size / 2) S r (by rw [HS.out, Array.length_toList]; exact hev) HU.out; omega
      · have := unhex_odd_mod S (by rw [HS.out, Array.length_toList]; have e : s.data.size = s.size := rfl; omega)
        rw [HU.out] at this; cases this
    clear hb1 hb2 hb3 hb4 hown2 hown3
    go_wp2_with fail
    refine (unhide HC2 _ hA4).mono ?_
    rintro e w5 ⟨rfl, hd5⟩
    have hz4 := hb14.size
    have hb5 := drawn_below (B := w4.heap.size) hd5
    have hb15 := hb14.trans (hb5.mono hz4)
    have hz5 := hb15.size
    have hown5 := hown4.later hb5
    have ho25 := ho2.later hb5
    have ho35 := ho3.later hb5
    clear hb5 hd5 hown4
    go_wp2_with fail
    refine (same_eq _ _ _ _ _ _ r r _ _ _ ho25.bs ho35.bs (by unfold maxLen; omega) rfl).mono ?_
    rintro e w6 ⟨rfl, hd6⟩
    have hb6 := drawn_below (B := w5.heap.size) hd6
    have hb16 := hb15.trans (hb6.mono hz5)
    have hz6 := hb16.size
    have hown6 := hown5.later hb6
    have hA6 := hA.below hb16
    clear hb6 hd6 hown5
    go_wp2_with fail
    refine (same_eq _ _ _ _ _ _ l l _ _ _ hown6.bs hA6 (by unfold maxLen; rw [HL.out]; omega) rfl).mono ?_
    rintro e w7 ⟨rfl, hd7⟩
    have hb7 := drawn_below (B := w6.heap.size) hd7
    have hb17 := hb16.trans (hb7.mono hz6)
    have hz7 := hb17.size
    clear hb7 hd7
    go_wp2_with fail
    refine (awake_any _).mono ?_
    rintro e w8 ⟨rfl, hb8⟩
    have hbz := hb17.trans (hb8.mono hz7)
    clear hb8
    go_wp2
    go_ret
    exact ⟨rfl, hbz⟩

/-! ### THE ROW's STEP -/
set_option maxRecDepth 100000 in
theorem lifted (os : Os) (started : os.Started) (H : Type) (enc : TypeId × Value → H) :
    ReturnsInHanded {} Try.checked os 12 .any (Rows.bitsHexesSpec.pre6 enc Try.prog Try.f12 Rows.bitsHexesRow.domain false) (Rows.bitsHexesSpec.post enc Try.prog Try.f12 false true false false) := by
  refine returnsInHanded_of_change (C := Try.checked) own started (by kernel_rfl) Try.func12
    (ChangeSpec.witness6 (enc := enc) (C := Try.checked) false ⟨#[], #[.slice none 0 0, .string ByteArray.empty], []⟩ 8 (by kernel_rfl) (by kernel_rfl) (by kernel_rfl) (by kernel_rfl)) ?_
  intro W base args ds gs before hval0 hW hcnd _
  have hval : ∀ (j : Nat) t v, Try.f12.params[j]? = some t → args[j]? = some v → Value.okWide Try.prog W .any base t v := hval0
  have hW' := hW
  obtain ⟨p, q, hA0, hV, rfl, hfz, hnd⟩ := hW
  have hA : DataW.TrodAll enc Try.prog W 0 (fun _ => true) true Try.f12.params.toList args.toList ds p := hA0
  rw [Try.params12] at hA hval
  obtain ⟨v0, vs0, d0, ds0, p0, q0, hargs, rfl, rfl, h0, r0⟩ := trodAll_cons hA
  obtain ⟨v1, vs1, d1, ds1, p1, q1, rfl, rfl, rfl, h1, r1⟩ := trodAll_cons r0
  obtain ⟨rfl, rfl, rfl⟩ := trodAll_nil r1
  obtain rfl : args = #[v0, v1] := by cases args; simp_all
  obtain ⟨rfl, rfl⟩ := trodVars_none hV
  have k0 := h0
  have lt0 : ∀ x ∈ p0, x.block < W.heap.size := by obtain ⟨m, hm⟩ := k0; exact DataW.trod_lt m _ _ _ hm
  obtain ⟨a0, len0, cap0, rfl⟩ := okWide_slice Try.underlying22 (hval 0 22 v0 rfl rfl)
  obtain ⟨z0, w0⟩ : ∃ zs, IsRow .u8 W a0 len0 cap0 zs := by
    obtain ⟨fuel, hf⟩ := h0
    rcases open_ints Try.underlying22 Try.underlying5 (by kernel_rfl) hf with ⟨hcs, _⟩ | ⟨x, l, c, zs, hcs, _, hl, hm, hz, _, hcell, hwz⟩
    · simp [Value.cells] at hcs
      obtain ⟨rfl, rfl, rfl⟩ := hcs
      exact ⟨[], .inl ⟨rfl, rfl, rfl, rfl⟩⟩
    · simp [Value.cells] at hcs
      obtain ⟨rfl, rfl, rfl⟩ := hcs
      exact ⟨zs, .inr ⟨_, rfl, hl, hm, by simpa using hz, hcell, hwz⟩⟩
  have b0 : ∀ x, a0 = some x → 0 < len0 → x.block < W.heap.size := isRow_block w0
  have k1 := h1
  have lt1 : ∀ x ∈ p1, x.block < W.heap.size := by obtain ⟨m, hm⟩ := k1; exact DataW.trod_lt m _ _ _ hm
  obtain ⟨a1, rfl, rfl, rfl, w1⟩ := open_string Try.underlying9 (hval 1 9 v1 rfl rfl) h1
  clear hA0 hval0
  refine (walk a0 len0 cap0 z0 a1 W w0 b0 w1).mono fun e W' ⟨he, bel⟩ => ?_
  subst he
  exact ⟨_, rfl, _, _, _, [], _, [], hW', trodAll_mk1 (shut_bool Try.underlying4 _), (trodAll_cons_mk (Below.trod laidOut (by kernel_rfl) (of_decide_eq_true (by kernel_rfl)) k0 bel lt0) (trodAll_cons_mk (Below.trod laidOut (by kernel_rfl) (of_decide_eq_true (by kernel_rfl)) k1 bel lt1) trodAll_mk0)), rfl, bel.frame _, fun h => by cases h⟩

theorem over : Rows.bitsHexesRow.holds Try.pinned (OpenSpec.ofChange Rows.bitsHexesSpec) :=
  OpenClaim.holds_of_wide 12 Try.f12 rfl rfl rfl rfl rfl rfl rfl ⟨rfl, rfl, rfl, rfl, rfl⟩ rfl rfl rfl rfl rfl (by kernel_rfl) Try.func12 (by kernel_rfl)
    (of_decide_eq_true (by kernel_rfl)) (by unfold Func.isWrapper; first | (rw [if_pos (by decide +kernel)]; kernel_rfl) | (rw [if_neg (by decide +kernel)]; exact ⟨rfl, rfl⟩))
    (fun os started H enc _ => lifted os started H enc)

theorem proved : Rows.BitsHexesSaid := over
#print axioms proved
end Go.Proofs.Ytapnlclcphcbfaa.bitsHexes
