/-
  The law choraguslaw06.FrameBack answers true, and does not panic, for every argument that its row allows. Conditions: none but the row's own.
-/
import Derived.Test.YtkhkihobbfecoaaRows
import Derived.WalkKit
import Derived.ProofKit
import Derived.OpenShut
import Derived.ShutString
import Derived.ChangeOld
import Derived.Below
import Derived.Test.YtkhkihobbfecoaaOpen
import Derived.Test.YtkhkihobbfecoaaOpenF
import Derived.Test.YtkhkihobbfecoaaFrame3
import Derived.Test.YtkhkihobbfecoaaFrame5
import Derived.Test.YtkhkihobbfecoaaFrame9
import Derived.Test.YtkhkihobbfecoaaReg1
namespace Go.Proofs.Ytkhkihobbfecoaa.frameBack
open Go.ChangeShapes Go.WideShapes Go.ChangeAt Go.RowKit
open Go.ChangeMaps (open_string shut_string)
set_option linter.unusedVariables false
set_option linter.unusedSimpArgs false

set_option maxRecDepth 100000 in
set_option maxHeartbeats 1000000 in
theorem walk (k : Int) (i c j d s : Nat) (A : Option Addr) (n q : Nat) (l : List UInt8) (k' : Int) (i' c' j' d' s' : Nat) (A' : Option Addr) (n' q' : Nat) (l' : List UInt8) (w : World) (hp : PkOk w k i c j d s A n q l) (hp' : PkOk w k' i' c' j' d' s' A' n' q' l') :
    Calls Try.prog 5 #[.agg #[.int .i64 (k : Int), .int .u16 (i : Int), .int .u32 (c : Int), .int .u16 (j : Int), .int .u32 (d : Int), .int .u64 (s : Int), .slice A n q], .agg #[.int .i64 (k' : Int), .int .u16 (i' : Int), .int .u32 (c' : Int), .int .u16 (j' : Int), .int .u32 (d' : Int), .int .u64 (s' : Int), .slice A' n' q']] w fun e w' => e = .returned (.bool true) ∧ Below w.heap.size w w' := by
  obtain ⟨hk0, hk1, hi, hc, hj, hd, hs, hA, hnq, hq⟩ := hp
  obtain ⟨-, -, -, -, -, -, -, hA', hnq', hq'⟩ := hp'
  have hlen := hA.len
  have hb0 : Below w.heap.size w ((w.alloc (.cells #[.int .i64 (k : Int), .int .u16 (i : Int), .int .u32 (c : Int), .int .u16 (j : Int), .int .u32 (d : Int), .int .u64 (s : Int), .slice A n q] 29)).alloc (.cells #[.int .i64 (k' : Int), .int .u16 (i' : Int), .int .u32 (c' : Int), .int .u16 (j' : Int), .int .u32 (d' : Int), .int .u64 (s' : Int), .slice A' n' q'] 29)) := ((Below.refl _ _).alloc (Nat.le_refl _) _).alloc (by simp) _
  by_cases h1 : 5000 < n
  · have t1 : ((n : Int) > 5000) = True := by simp; omega
    go_enter Try.func5, Try.ntmps5
    go_wp2_with fail
    refine (awake6_any _).mono ?_
    rintro e w' ⟨rfl, hb⟩
    have hbz := hb0.trans (hb.mono (by simp; omega))
    go_wp2
    go_ret
    exact ⟨rfl, hbz⟩
  · have t1 : ((n : Int) > 5000) = False := by simp; omega
    by_cases h1' : 5000 < n'
    · have t2 : ((n' : Int) > 5000) = True := by simp; omega
      go_enter Try.func5, Try.ntmps5
      go_wp2_with fail
      refine (awake6_any _).mono ?_
      rintro e w' ⟨rfl, hb⟩
      have hbz := hb0.trans (hb.mono (by simp; omega))
      go_wp2
      go_ret
      exact ⟨rfl, hbz⟩
    · have t2 : ((n' : Int) > 5000) = False := by simp; omega
      have c1 := fun W (h : Bs W W.heap.size A n l) (h' : Bs W W.heap.size A' n' l') => same6_any k i c j d s A n q l k' i' c' j' d' s' A' n' q' l' W h h' (by unfold maxLen; omega) (by unfold maxLen; omega)
      have c2 := fun W (h : Bs W W.heap.size A n l) (h' : Bs W W.heap.size A' n' l') => rsame6_any k i c j d s A n q l k' i' c' j' d' s' A' n' q' l' W h h' (by unfold maxLen; omega) (by unfold maxLen; omega)
      have c3 := fun W (h : Bs W W.heap.size A n l) => same6_any k i c j d s A n q l k i c j d s A n q l W h h (by unfold maxLen; omega) (by unfold maxLen; omega)
      rw [sameQ_self] at c3
      generalize sameQ k i c j d s l k' i' c' j' d' s' l' = S at c1 c2
      have hA1 := (hA.below hb0).more hb0.size
      have hA1' := (hA'.below hb0).more hb0.size
      have hP : PkAt ((w.alloc (.cells #[.int .i64 (k : Int), .int .u16 (i : Int), .int .u32 (c : Int), .int .u16 (j : Int), .int .u32 (d : Int), .int .u64 (s : Int), .slice A n q] 29)).alloc (.cells #[.int .i64 (k' : Int), .int .u16 (i' : Int), .int .u32 (c' : Int), .int .u16 (j' : Int), .int .u32 (d' : Int), .int .u64 (s' : Int), .slice A' n' q'] 29)) w.heap.size k i c j d s A n q := (PkAt.new w).alloc _
      have hP' : PkAt ((w.alloc (.cells #[.int .i64 (k : Int), .int .u16 (i : Int), .int .u32 (c : Int), .int .u16 (j : Int), .int .u32 (d : Int), .int .u64 (s : Int), .slice A n q] 29)).alloc (.cells #[.int .i64 (k' : Int), .int .u16 (i' : Int), .int .u32 (c' : Int), .int .u16 (j' : Int), .int .u32 (d' : Int), .int .u64 (s' : Int), .slice A' n' q'] 29)) (w.heap.size + 1) k' i' c' j' d' s' A' n' q' := by
        have := PkAt.new (k := k') (i := i') (c := c') (j := j') (d := d') (s := s') (A := A') (n := n') (q := q') (w.alloc (.cells #[.int .i64 (k : Int), .int .u16 (i : Int), .int .u32 (c : Int), .int .u16 (j : Int), .int .u32 (d : Int), .int .u64 (s : Int), .slice A n q] 29))
        simpa using this
      go_enter Try.func5, Try.ntmps5
      go_wp2
      generalize ((w.alloc (.cells #[.int .i64 (k : Int), .int .u16 (i : Int), .int .u32 (c : Int), .int .u16 (j : Int), .int .u32 (d : Int), .int .u64 (s : Int), .slice A n q] 29)).alloc (.cells #[.int .i64 (k' : Int), .int .u16 (i' : Int), .int .u32 (c' : Int), .int .u16 (j' : Int), .int .u32 (d' : Int), .int .u64 (s' : Int), .slice A' n' q'] 29)) = w1 at hb0 hA1 hA1' hP hP' ⊢
      obtain ⟨f0, f1, f2, f3, f4, f5, f6⟩ := hP.cells
      obtain ⟨f0', f1', f2', f3', f4', f5', f6'⟩ := hP'.cells
      have g0 := Later.cell f0
      have g1 := Later.cell f1
      have g2 := Later.cell f2
      have g3 := Later.cell f3
      have g4 := Later.cell f4
      have g5 := Later.cell f5
      have g6 := Later.cell f6
      have g0' := Later.cell f0'
      have g1' := Later.cell f1'
      have g2' := Later.cell f2'
      have g3' := Later.cell f3'
      have g4' := Later.cell f4'
      have g5' := Later.cell f5'
      have g6' := Later.cell f6'
      clear f0 f1 f2 f3 f4 f5 f6 f0' f1' f2' f3' f4' f5' f6'
      refine wp_region_calm (by kernel_rfl) (by kernel_rfl) ?_
      have k1 := fun x : Later w1 => calm_of (c1 x.w ((hA1.below x.below).more x.below.size) ((hA1'.below x.below).more x.below.size))
      have k2 := fun x : Later w1 => calm_of (c2 x.w ((hA1.below x.below).more x.below.size) ((hA1'.below x.below).more x.below.size))
      have k3 := fun x : Later w1 => calm_of (c3 x.w ((hA1.below x.below).more x.below.size))
      clear c1 c2 c3
      repeat (go_big_quiet_step (first | (go_at_call 19; first | with_reducible exact k1 _ | with_reducible exact k3 _) | (go_at_call 18; with_reducible exact k2 _)))
      refine wpQuiet_nil ?_
      rintro _ ⟨x9, rfl⟩
      have hb9 := x9.below
      have hP9 := hP.later hb9
      have hx9 := hb0.trans (hb9.mono hb0.size)
      have hA9 := (hA1.below hb9).more hb9.size
      generalize x9.w = w9 at hb9 hP9 hx9 hA9 ⊢
      clear g0 g1 g2 g3 g4 g5 g6 g0' g1' g2' g3' g4' g5' g6' k1 k2 k3 hb9 hP hP' hA1 hA1' hb0
      have hs9 := hx9.size
      obtain ⟨f0, f1, f2, f3, f4, f5, f6⟩ := hP9.cells
      by_cases h2 : checkF k i c j d n = 0
      · have hok := checkF_ok h2
        obtain ⟨kn, rfl⟩ := Int.eq_ofNat_of_zero_le (show 0 ≤ k by omega)
        have hI := isP_form kn i c j d s l (by omega) hi hc hj hd hs (by omega) (by rw [hlen]; exact h2)
        obtain ⟨m, hm⟩ : ∃ m, m = (frameL kn i c j d s l).length := ⟨_, rfl⟩
        have hml : m = 12 + ((fldL i c j d s).length + n) := by rw [hm, frameL_len, hlen]
        have hfl := fldL_len i c j d s
        have hm2 : m ≤ 10000 := by omega
        have ce := encode_yes kn i c j d s A n q m l w9 hA9 hi hc hj hd hs h2 hm
        generalize frameL kn i c j d s l = L at hI hm ce
        have hz := isP_zero hI
        have HI := hide hI
        have HL := hide hlen
        clear hm hml hfl hok h2 hI hlen
        go_wp2_with fail
        refine ce.mono ?_
        rintro e w2 ⟨A1, c1, rfl, hO1, hb1⟩
        have hcap := hO1.cap
        have hroom := hO1.room
        have hP2 := hP9.later hb1
        have hx2 := hx9.trans (hb1.mono hs9)
        have hA2 := (hA9.below hb1).more hb1.size
        have hs2 := hx2.size
        have cd := decode_any A1 m c1 L w2 hO1.bs hcap hroom (by omega)
        clear ce hb1 f0 f1 f2 f3 f4 f5 f6 hP9 hA9 hx9
        obtain ⟨f0, f1, f2, f3, f4, f5, f6⟩ := hP2.cells
        go_wp2_with fail
        refine cd.mono ?_
        rintro e w3 ⟨hb3, h⟩
        rcases h with ⟨he, _⟩ | ⟨k2, i2, c2, j2, d2, s2, r, A2, q2, _, hI2, _, rfl, hO2⟩
        · exact absurd hz he
        · obtain ⟨rfl, rfl, rfl, rfl, rfl, rfl, rfl⟩ := isP_same HI.out hI2
          have hP3 := hP2.later hb3
          have hx3 := hx2.trans (hb3.mono hs2)
          have hA3 := (hA2.below hb3).more hb3.size
          have hs3 := hx3.size
          have hP4 := hP3.alloc (.cells #[.int .i64 (k2 : Int), .int .u16 (i2 : Int), .int .u32 (c2 : Int), .int .u16 (j2 : Int), .int .u32 (d2 : Int), .int .u64 (s2 : Int), .slice A2 (r.length) q2] 29)
          have hx4 := hx3.alloc hs3 (.cells #[.int .i64 (k2 : Int), .int .u16 (i2 : Int), .int .u32 (c2 : Int), .int .u16 (j2 : Int), .int .u32 (d2 : Int), .int .u64 (s2 : Int), .slice A2 (r.length) q2] 29)
          have hA4 := (hA3.alloc (Nat.le_refl _) (.cells #[.int .i64 (k2 : Int), .int .u16 (i2 : Int), .int .u32 (c2 : Int), .int .u16 (j2 : Int), .int .u32 (d2 : Int), .int .u64 (s2 : Int), .slice A2 (r.length) q2] 29)).more (B' := w3.heap.size + 1) (by omega)
          have hO4 := (hO2.alloc (.cells #[.int .i64 (k2 : Int), .int .u16 (i2 : Int), .int .u32 (c2 : Int), .int .u16 (j2 : Int), .int .u32 (d2 : Int), .int .u64 (s2 : Int), .slice A2 (r.length) q2] 29)).bs
          have hcap2 := hO2.cap
          have hroom2 := hO2.room
          clear f0 f1 f2 f3 f4 f5 f6 hb3 hP2 hA2 hO2 hP3 hA3 hx3 cd hz hI2
          obtain ⟨f0, f1, f2, f3, f4, f5, f6⟩ := hP4.cells
          go_wp2_with fail
          refine (rsame6_any k2 i2 c2 j2 d2 s2 A2 r.length q2 r k2 i2 c2 j2 d2 s2 A n q r _ hO4 (by simpa using hA4) (Nat.le_trans hcap2 hroom2) (by unfold maxLen; omega)).mono ?_
          rintro e w5 ⟨rfl, hb5⟩
          rw [sameQ_self]
          have hx5 := hx4.trans (hb5.mono hx4.size)
          have hs5 := hx5.size
          clear hb5 hO4 hA4 hx4
          go_wp2_with fail
          refine (awake6_any _).mono ?_
          rintro e w' ⟨rfl, hb⟩
          have hbz := hx5.trans (hb.mono hs5)
          go_wp2
          go_ret
          exact ⟨rfl, hbz⟩
      · have ce := encode_no k i c j d s A n q w9 hk0 hk1 hi hc hj hd (by omega) h2
        obtain ⟨f, hf⟩ : ∃ f, f = checkF k i c j d n := ⟨_, rfl⟩
        rw [← hf] at ce h2
        have t : ((f : Int) != 0) = true := by simp; omega
        clear hf h2 hlen
        go_wp2_with fail
        refine ce.mono ?_
        rintro e w2 ⟨rfl, hb1⟩
        have hx2 := hx9.trans (hb1.mono hs9)
        have hs2 := hx2.size
        clear ce hb1
        go_wp2_with fail
        refine (awake6_any _).mono ?_
        rintro e w' ⟨rfl, hb⟩
        have hbz := hx2.trans (hb.mono hs2)
        go_wp2
        go_ret
        exact ⟨rfl, hbz⟩

/-! ### THE ROW's STEP -/
set_option maxRecDepth 100000 in
theorem lifted (os : Os) (started : os.Started) (H : Type) (enc : TypeId × Value → H) :
    ReturnsInHanded {} Try.checked os 5 .any (Rows.frameBackSpec.pre6 enc Try.prog Try.f5 Rows.frameBackRow.domain false) (Rows.frameBackSpec.post enc Try.prog Try.f5 false true false false) := by
  refine returnsInHanded_of_change (C := Try.checked) own started (by kernel_rfl) Try.func5
    (ChangeSpec.witness6 (enc := enc) (C := Try.checked) false ⟨#[], #[.agg #[.int .i64 0, .int .u16 0, .int .u32 0, .int .u16 0, .int .u32 0, .int .u64 0, .slice none 0 0], .agg #[.int .i64 0, .int .u16 0, .int .u32 0, .int .u16 0, .int .u32 0, .int .u64 0, .slice none 0 0]], []⟩ 8 (by kernel_rfl) (by kernel_rfl) (by kernel_rfl) (by kernel_rfl)) ?_
  intro W base args ds gs before hval0 hW hcnd _
  have hval : ∀ (j : Nat) t v, Try.f5.params[j]? = some t → args[j]? = some v → Value.okWide Try.prog W .any base t v := hval0
  have hW' := hW
  obtain ⟨p, q, hA0, hV, rfl, hfz, hnd⟩ := hW
  have hA : DataW.TrodAll enc Try.prog W 0 (fun _ => true) true Try.f5.params.toList args.toList ds p := hA0
  rw [Try.params5] at hA hval
  obtain ⟨v0, vs0, d0, ds0, p0, q0, hargs, rfl, rfl, h0, r0⟩ := trodAll_cons hA
  obtain ⟨v1, vs1, d1, ds1, p1, q1, rfl, rfl, rfl, h1, r1⟩ := trodAll_cons r0
  obtain ⟨rfl, rfl, rfl⟩ := trodAll_nil r1
  obtain rfl : args = #[v0, v1] := by cases args; simp_all
  obtain ⟨rfl, rfl⟩ := trodVars_none hV
  have k0 := h0
  have lt0 : ∀ x ∈ p0, x.block < W.heap.size := by obtain ⟨m, hm⟩ := k0; exact DataW.trod_lt m _ _ _ hm
  obtain ⟨k0x, i0x, c0x, j0x, d0x, s0x, a0, n0, q0, l0, rfl, hp0⟩ := open_packet (hval 0 29 v0 rfl rfl) h0
  have k1 := h1
  have lt1 : ∀ x ∈ p1, x.block < W.heap.size := by obtain ⟨m, hm⟩ := k1; exact DataW.trod_lt m _ _ _ hm
  obtain ⟨k1x, i1x, c1x, j1x, d1x, s1x, a1, n1, q1, l1, rfl, hp1⟩ := open_packet (hval 1 29 v1 rfl rfl) h1
  clear hA0 hval0
  refine (walk k0x i0x c0x j0x d0x s0x a0 n0 q0 l0 k1x i1x c1x j1x d1x s1x a1 n1 q1 l1 W hp0 hp1).mono fun e W' ⟨he, bel⟩ => ?_
  subst he
  exact ⟨_, rfl, _, _, _, [], _, [], hW', trodAll_mk1 (shut_bool Try.underlying4 _), (trodAll_cons_mk (Below.trod laidOut (by kernel_rfl) (of_decide_eq_true (by kernel_rfl)) k0 bel lt0) (trodAll_cons_mk (Below.trod laidOut (by kernel_rfl) (of_decide_eq_true (by kernel_rfl)) k1 bel lt1) trodAll_mk0)), rfl, bel.frame _, fun h => by cases h⟩

theorem over : Rows.frameBackRow.holds Try.pinned (OpenSpec.ofChange Rows.frameBackSpec) :=
  OpenClaim.holds_of_wide 5 Try.f5 rfl rfl rfl rfl rfl rfl rfl ⟨rfl, rfl, rfl, rfl, rfl⟩ rfl rfl rfl rfl rfl (by kernel_rfl) Try.func5 (by kernel_rfl)
    (of_decide_eq_true (by kernel_rfl)) (by unfold Func.isWrapper; first | (rw [if_pos (by decide +kernel)]; kernel_rfl) | (rw [if_neg (by decide +kernel)]; exact ⟨rfl, rfl⟩))
    (fun os started H enc _ => lifted os started H enc)

theorem proved : Rows.FrameBackSaid := over
#print axioms proved
end Go.Proofs.Ytkhkihobbfecoaa.frameBack
