/-
  The law choraguslaw02.CrcTurned answers true, and does not panic, for every argument that its row allows. Conditions: none but the row's own.
-/
import Derived.Test.YtcfindjjcghhkaaRows
import Derived.WalkKit
import Derived.ProofKit
import Derived.OpenShut
import Derived.ShutString
import Derived.ChangeOld
import Derived.Below
import Derived.Test.YtcfindjjcghhkaaOpen
import Derived.Test.YtcfindjjcghhkaaCrc2
namespace Go.Proofs.Ytcfindjjcghhkaa.crcTurned
open Go.ChangeShapes Go.WideShapes Go.ChangeAt Go.RowKit
open Go.ChangeMaps (open_string shut_string)
set_option linter.unusedVariables false
set_option linter.unusedSimpArgs false

theorem turned_no {l : List UInt8} {n k : Nat} {y : UInt8} (h : l.length = n) (hk : k < (sealL l).length) (hy : y ≠ (sealL l)[k]) : numL (((sealL l).set k y).drop n) ≠ sumN (((sealL l).set k y).take n) := by
  have hlen := sealL_len l
  rw [List.drop_set, List.take_set, seal_take h, seal_drop h]
  by_cases hkn : k < n
  · rw [if_pos hkn, seal_num]
    have hkl : k < l.length := by omega
    have e : (sealL l)[k] = l[k] := by simp [sealL, List.getElem_append_left, hkl]
    rw [e] at hy
    have e2 : l = l.take k ++ l[k] :: l.drop (k + 1) := by simp
    rw [List.set_eq_take_append_cons_drop, if_pos hkl]
    intro e3
    have e4 : sumN (l.take k ++ l[k] :: l.drop (k + 1)) = sumN (l.take k ++ y :: l.drop (k + 1)) := by rw [← e2]; exact e3
    exact sumN_tells _ _ _ _ (Ne.symm hy) e4
  · rw [if_neg hkn, List.set_eq_of_length_le (show l.length ≤ k by omega)]
    intro e
    have hf := formL_len (sumN l) 4
    have e2 : (formL (sumN l) 4).set (k - n) y = formL (sumN l) 4 := numL_inj 4 _ _ (by rw [List.length_set, hf]) hf (by rw [e, seal_num])
    have hj : k - n < (formL (sumN l) 4).length := by omega
    have e3 : ((formL (sumN l) 4).set (k - n) y)[k - n]? = some y := by rw [List.getElem?_set_self hj]
    rw [e2, List.getElem?_eq_getElem hj] at e3
    have e4 : (sealL l)[k] = (formL (sumN l) 4)[k - n] := by
      subst h
      simp only [sealL]
      rw [List.getElem_append_right (by omega)]
    apply hy
    rw [e4]
    exact (Option.some.inj e3).symm
theorem u8_turn (x : UInt8) (d : Nat) (hd : d < 256) : bits .xor .u8 (x.toNat : Int) (d : Int) = ((x ^^^ UInt8.ofNat d).toNat : Int) := by
  rw [u8_xor_nat _ _ x.toNat_lt hd, UInt8.toNat_xor]
  congr 2
  simp; omega
theorem u8_turned (x : UInt8) (d : Nat) (hd : d < 256) (h0 : d ≠ 0) : x ^^^ UInt8.ofNat d ≠ x := by
  intro e
  have e1 := congrArg UInt8.toNat e
  rw [UInt8.toNat_xor] at e1
  have e2 : (UInt8.ofNat d).toNat = d := by simp; omega
  rw [e2] at e1
  have e3 : (x.toNat ^^^ d) ^^^ x.toNat = x.toNat ^^^ x.toNat := by rw [e1]
  rw [Nat.xor_self, Nat.xor_comm x.toNat d, Nat.xor_assoc, Nat.xor_self, Nat.xor_zero] at e3
  exact h0 e3
set_option maxRecDepth 100000 in
theorem walk (A : Option Addr) (n c : Nat) (zs : List Int) (a1 a2 : Int) (w : World) (w0 : IsRow .u8 w A n c zs) (_b : ∀ x, A = some x → 0 < n → x.block < w.heap.size) (w1 : (Lit.int .i64 a1).wf = true) (w2 : (Lit.int .u8 a2).wf = true) :
    Calls Try.prog 6 #[.slice A n c, .int .i64 a1, .int .u8 a2] w fun e w' => e = .returned (.bool true) ∧ Below w.heap.size w w' := by
  obtain ⟨l, hA, hnc, hc⟩ := isRow_bytes w0
  have b1 := wf_i64 w1
  have b2 := wf_u8 w2
  clear w0 _b w1 w2
  unfold maxLen at hc
  by_cases hg : 1000 < n ∨ a2 = 0
  · have hgo : ∀ (K : Prop), (1000 < n → K) → (n ≤ 1000 → a2 = 0 → K) → K := fun K h1 h2 => by
      by_cases h : 1000 < n
      · exact h1 h
      · exact h2 (by omega) (by omega)
    refine hgo _ (fun h1 => ?_) (fun h1 h2 => ?_)
    · clear hg hgo
      have t : ((n : Int) > 1000) = True := by simp; omega
      go_enter Try.func6, Try.ntmps6
      go_wp2_with fail
      refine (awake2_any _).mono ?_
      rintro e w' ⟨rfl, hb⟩
      go_wp2
      go_ret
      exact ⟨rfl, hb⟩
    · clear hg hgo
      subst h2
      go_enter Try.func6, Try.ntmps6
      go_wp2_with fail
      refine (awake2_any _).mono ?_
      rintro e w' ⟨rfl, hb⟩
      go_wp2
      go_ret
      exact ⟨rfl, hb⟩
  · have h1 : n ≤ 1000 := by omega
    have h2 : (a2 == 0) = false := by rw [beq_eq_false_iff_ne]; omega
    obtain ⟨d, rfl⟩ := Int.eq_ofNat_of_zero_le b2.1
    have hd : d < 256 := by omega
    have hd0 : d ≠ 0 := by omega
    have hn4 : ((n + 4 : Nat) : Int) = (n : Int) + 4 := by omega
    obtain ⟨k, hk, hkn⟩ : ∃ k : Nat, pickF a1 (n + 4) = (k : Int) ∧ k < n + 4 := by
      have := pickF_bd (a := a1) (n := (n : Int) + 4) (by omega)
      exact ⟨(pickF a1 (n + 4)).toNat, by omega, by omega⟩
    have hkl : k < (sealL l).length := by rw [sealL_len, hA.len]; exact hkn
    have hno := turned_no hA.len hkl (u8_turned (sealL l)[k] d hd hd0)
    have hx := u8_turn (sealL l)[k] d hd
    have HNO := hide hno
    have HX := hide hx
    have HK := hide hk
    have HL := hide hA.len
    clear hg hno hx hk hd0 hn4
    go_enter Try.func6, Try.ntmps6
    go_wp2_with fail
    refine (seal_any A n c l _ _ hA (Nat.le_refl _) (by omega)).mono ?_
    rintro e w1 ⟨A1, c1, rfl, hown, hb1⟩
    obtain ⟨g, rfl, hg1, hg2⟩ := hown.block (by omega)
    have hcap := hown.cap
    have hcell := hown.cell hkn hkl
    have hfr := hown.frozen k
    have hown2 := hown.set_ k ((sealL l)[k] ^^^ UInt8.ofNat d)
    have hb2 := hb1.setCell (p := ⟨g, k, none⟩) hg1 (byteV ((sealL l)[k] ^^^ UInt8.ofNat d))
    unfold byteV at hcell hown2 hb2
    rw [← HX.out] at hown2 hb2
    have hs1 := hb1.size
    clear hown hb1
    go_wp2_with fail
    refine (pick_any a1 (n + 4) _ (by omega) (by omega) (by omega) (by omega)).mono ?_
    rintro e w' ⟨rfl, rfl⟩
    rw [HK.out]
    go_wp2_with fail
    refine (open_no _ n (n + 4) c1 _ _ _ hown2.bs (by simp) rfl hcap (by omega) HNO.out).mono ?_
    rintro e w2 ⟨rfl, hb3⟩
    simp only [World.size_setCell] at hb3
    have hb4 := hb2.trans (hb3.mono hs1)
    have hs4 := hb4.size
    clear hb3 hb2 hown2 hcell hfr
    go_wp2_with fail
    refine (awake2_any _).mono ?_
    rintro e w3 ⟨rfl, hb5⟩
    go_wp2
    go_ret
    exact ⟨rfl, hb4.trans (hb5.mono hs4)⟩

/-! ### THE ROW's STEP -/
set_option maxRecDepth 100000 in
theorem lifted (os : Os) (started : os.Started) (H : Type) (enc : TypeId × Value → H) :
    ReturnsInHanded {} Try.checked os 6 .any (Rows.crcTurnedSpec.pre6 enc Try.prog Try.f6 Rows.crcTurnedRow.domain false) (Rows.crcTurnedSpec.post enc Try.prog Try.f6 false true false false) := by
  refine returnsInHanded_of_change (C := Try.checked) own started (by kernel_rfl) Try.func6
    (ChangeSpec.witness6 (enc := enc) (C := Try.checked) false ⟨#[], #[.slice none 0 0, .int .i64 0, .int .u8 0], []⟩ 8 (by kernel_rfl) (by kernel_rfl) (by kernel_rfl) (by kernel_rfl)) ?_
  intro W base args ds gs before hval0 hW hcnd _
  have hval : ∀ (j : Nat) t v, Try.f6.params[j]? = some t → args[j]? = some v → Value.okWide Try.prog W .any base t v := hval0
  have hW' := hW
  obtain ⟨p, q, hA0, hV, rfl, hfz, hnd⟩ := hW
  have hA : DataW.TrodAll enc Try.prog W 0 (fun _ => true) true Try.f6.params.toList args.toList ds p := hA0
  rw [Try.params6] at hA hval
  obtain ⟨v0, vs0, d0, ds0, p0, q0, hargs, rfl, rfl, h0, r0⟩ := trodAll_cons hA
  obtain ⟨v1, vs1, d1, ds1, p1, q1, rfl, rfl, rfl, h1, r1⟩ := trodAll_cons r0
  obtain ⟨v2, vs2, d2, ds2, p2, q2, rfl, rfl, rfl, h2, r2⟩ := trodAll_cons r1
  obtain ⟨rfl, rfl, rfl⟩ := trodAll_nil r2
  obtain rfl : args = #[v0, v1, v2] := by cases args; simp_all
  obtain ⟨rfl, rfl⟩ := trodVars_none hV
  have k0 := h0
  have lt0 : ∀ x ∈ p0, x.block < W.heap.size := by obtain ⟨m, hm⟩ := k0; exact DataW.trod_lt m _ _ _ hm
  obtain ⟨a0, len0, cap0, rfl⟩ := okWide_slice Try.underlying22 (hval 0 22 v0 rfl rfl)
  obtain ⟨z0, w0⟩ : ∃ zs, IsRow .u8 W a0 len0 cap0 zs := by
    obtain ⟨fuel, hf⟩ := h0
    rcases open_ints Try.underlying22 Try.underlying5 (by kernel_rfl) hf with ⟨hcs, _⟩ | ⟨x, l, c, zs, hcs, _, hl, hm, hz, _, hcell, hwz⟩
    · simp [Value.cells] at hcs
      obtain ⟨rfl, rfl, rfl⟩ := hcs
      exact ⟨[], .inl ⟨rfl, rfl, rfl, rfl⟩⟩
    · simp [Value.cells] at hcs
      obtain ⟨rfl, rfl, rfl⟩ := hcs
      exact ⟨zs, .inr ⟨_, rfl, hl, hm, by simpa using hz, hcell, hwz⟩⟩
  have b0 : ∀ x, a0 = some x → 0 < len0 → x.block < W.heap.size := isRow_block w0
  have k1 := h1
  have lt1 : ∀ x ∈ p1, x.block < W.heap.size := by obtain ⟨m, hm⟩ := k1; exact DataW.trod_lt m _ _ _ hm
  obtain ⟨a1, rfl, rfl, rfl, w1⟩ := open_int Try.underlying3 (hval 1 3 v1 rfl rfl) h1
  have k2 := h2
  have lt2 : ∀ x ∈ p2, x.block < W.heap.size := by obtain ⟨m, hm⟩ := k2; exact DataW.trod_lt m _ _ _ hm
  obtain ⟨a2, rfl, rfl, rfl, w2⟩ := open_int Try.underlying5 (hval 2 5 v2 rfl rfl) h2
  clear hA0 hval0
  refine (walk a0 len0 cap0 z0 a1 a2 W w0 b0 w1 w2).mono fun e W' ⟨he, bel⟩ => ?_
  subst he
  exact ⟨_, rfl, _, _, _, [], _, [], hW', trodAll_mk1 (shut_bool Try.underlying4 _), (trodAll_cons_mk (Below.trod laidOut (by kernel_rfl) (of_decide_eq_true (by kernel_rfl)) k0 bel lt0) (trodAll_cons_mk (Below.trod laidOut (by kernel_rfl) (of_decide_eq_true (by kernel_rfl)) k1 bel lt1) (trodAll_cons_mk (Below.trod laidOut (by kernel_rfl) (of_decide_eq_true (by kernel_rfl)) k2 bel lt2) trodAll_mk0))), rfl, bel.frame _, fun h => by cases h⟩

theorem over : Rows.crcTurnedRow.holds Try.pinned (OpenSpec.ofChange Rows.crcTurnedSpec) :=
  OpenClaim.holds_of_wide 6 Try.f6 rfl rfl rfl rfl rfl rfl rfl ⟨rfl, rfl, rfl, rfl, rfl⟩ rfl rfl rfl rfl rfl (by kernel_rfl) Try.func6 (by kernel_rfl)
    (of_decide_eq_true (by kernel_rfl)) (by unfold Func.isWrapper; first | (rw [if_pos (by decide +kernel)]; kernel_rfl) | (rw [if_neg (by decide +kernel)]; exact ⟨rfl, rfl⟩))
    (fun os started H enc _ => lifted os started H enc)

theorem proved : Rows.CrcTurnedSaid := over
#print axioms proved
end Go.Proofs.Ytcfindjjcghhkaa.crcTurned
