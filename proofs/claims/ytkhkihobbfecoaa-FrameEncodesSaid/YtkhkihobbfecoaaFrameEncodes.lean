/-
  The law choraguslaw06.FrameEncodes answers true, and does not panic, for every argument that its row allows. Conditions: none but the row's own.
-/
import Derived.Test.YtkhkihobbfecoaaRows
import Derived.WalkKit
import Derived.ProofKit
import Derived.OpenShut
import Derived.ShutString
import Derived.ChangeOld
import Derived.Below
import Derived.Test.YtkhkihobbfecoaaOpen
import Derived.Test.YtkhkihobbfecoaaOpenF
import Derived.Test.YtkhkihobbfecoaaFrame5
import Derived.Test.YtkhkihobbfecoaaFrame7
import Derived.Test.YtkhkihobbfecoaaFrame10
namespace Go.Proofs.Ytkhkihobbfecoaa.frameEncodes
open Go.ChangeShapes Go.WideShapes Go.ChangeAt Go.RowKit
open Go.ChangeMaps (open_string shut_string)
set_option linter.unusedVariables false
set_option linter.unusedSimpArgs false

set_option maxRecDepth 100000 in
set_option maxHeartbeats 1000000 in
theorem walk (k : Int) (i c j d s : Nat) (A : Option Addr) (n q : Nat) (l : List UInt8) (w : World) (hp : PkOk w k i c j d s A n q l) :
    Calls Try.prog 3 #[.agg #[.int .i64 (k : Int), .int .u16 (i : Int), .int .u32 (c : Int), .int .u16 (j : Int), .int .u32 (d : Int), .int .u64 (s : Int), .slice A n q]] w fun e w' => e = .returned (.bool true) ∧ Below w.heap.size w w' := by
  obtain ⟨hk0, hk1, hi, hc, hj, hd, hs, hA, hnq, hq⟩ := hp
  have hlen := hA.len
  by_cases h1 : 5000 < n
  · have t1 : ((n : Int) > 5000) = True := by simp; omega
    have hb0 : Below w.heap.size w (w.alloc (.cells #[.int .i64 (k : Int), .int .u16 (i : Int), .int .u32 (c : Int), .int .u16 (j : Int), .int .u32 (d : Int), .int .u64 (s : Int), .slice A n q] 29)) := (Below.refl _ _).alloc (Nat.le_refl _) _
    go_enter Try.func3, Try.ntmps3
    go_wp2_with fail
    refine (awake6_any _).mono ?_
    rintro e w' ⟨rfl, hb⟩
    have hbz := hb0.trans (hb.mono (by simp))
    go_wp2
    go_ret
    exact ⟨rfl, hbz⟩
  · have t1 : ((n : Int) > 5000) = False := by simp; omega
    have hb0 : Below w.heap.size w ((w.alloc (.cells #[.int .i64 (k : Int), .int .u16 (i : Int), .int .u32 (c : Int), .int .u16 (j : Int), .int .u32 (d : Int), .int .u64 (s : Int), .slice A n q] 29)).alloc (.cells #[.int .i64 (k : Int), .int .u16 (i : Int), .int .u32 (c : Int), .int .u16 (j : Int), .int .u32 (d : Int), .int .u64 (s : Int), .slice A n q] 29)) := ((Below.refl _ _).alloc (Nat.le_refl _) _).alloc (by simp) _
    have hA1 := (hA.below hb0).more hb0.size
    have hP0 : PkAt ((w.alloc (.cells #[.int .i64 (k : Int), .int .u16 (i : Int), .int .u32 (c : Int), .int .u16 (j : Int), .int .u32 (d : Int), .int .u64 (s : Int), .slice A n q] 29)).alloc (.cells #[.int .i64 (k : Int), .int .u16 (i : Int), .int .u32 (c : Int), .int .u16 (j : Int), .int .u32 (d : Int), .int .u64 (s : Int), .slice A n q] 29)) w.heap.size k i c j d s A n q := (PkAt.new w).alloc _
    have hQ0 : PkAt ((w.alloc (.cells #[.int .i64 (k : Int), .int .u16 (i : Int), .int .u32 (c : Int), .int .u16 (j : Int), .int .u32 (d : Int), .int .u64 (s : Int), .slice A n q] 29)).alloc (.cells #[.int .i64 (k : Int), .int .u16 (i : Int), .int .u32 (c : Int), .int .u16 (j : Int), .int .u32 (d : Int), .int .u64 (s : Int), .slice A n q] 29)) (w.heap.size + 1) k i c j d s A n q := by
      have := PkAt.new (k := k) (i := i) (c := c) (j := j) (d := d) (s := s) (A := A) (n := n) (q := q) (w.alloc (.cells #[.int .i64 (k : Int), .int .u16 (i : Int), .int .u32 (c : Int), .int .u16 (j : Int), .int .u32 (d : Int), .int .u64 (s : Int), .slice A n q] 29))
      simpa using this
    go_enter Try.func3, Try.ntmps3
    go_wp2_with fail
    generalize ((w.alloc (.cells #[.int .i64 (k : Int), .int .u16 (i : Int), .int .u32 (c : Int), .int .u16 (j : Int), .int .u32 (d : Int), .int .u64 (s : Int), .slice A n q] 29)).alloc (.cells #[.int .i64 (k : Int), .int .u16 (i : Int), .int .u32 (c : Int), .int .u16 (j : Int), .int .u32 (d : Int), .int .u64 (s : Int), .slice A n q] 29)) = w1 at hb0 hA1 hP0 hQ0 ⊢
    refine (lent_any A n q l _ w1 hA1 (Nat.le_refl _) (by omega)).mono ?_
    rintro e w2 ⟨rfl, hL, hb2⟩
    have hg : w1.heap.size ≠ w.heap.size + 1 := by have := hQ0.lt; omega
    have hP2 := (hP0.later hb2).setOld (p := ⟨w.heap.size + 1, 6, none⟩) (by simp) (.slice (some ⟨w1.heap.size, 0, none⟩) n (n + 8))
    have hQ1 := hQ0.later hb2
    have hQ2 := hQ1.set6 (some ⟨w1.heap.size, 0, none⟩) n (n + 8)
    have hL2 := hL.setOld (p := ⟨w.heap.size + 1, 6, none⟩) hg (.slice (some ⟨w1.heap.size, 0, none⟩) n (n + 8))
    have hx2 := (hb0.trans (hb2.mono hb0.size)).setCell (p := ⟨w.heap.size + 1, 6, none⟩) (Nat.le_succ _) (.slice (some ⟨w1.heap.size, 0, none⟩) n (n + 8))
    obtain ⟨f0, f1, f2, f3, f4, f5, f6⟩ := hQ1.cells
    have fz := hQ1.frozen
    clear hb0 hA1 hP0 hQ0 hL hb2 hg
    go_wp2_with fail
    generalize (w2.setCell ⟨w.heap.size + 1, 6, none⟩ (.slice (some ⟨w1.heap.size, 0, none⟩) n (n + 8))) = w3 at hP2 hQ2 hL2 hx2 ⊢
    clear f0 f1 f2 f3 f4 f5 f6 fz hQ1
    generalize w1.heap.size = g at hQ2 hL2 ⊢
    have hA3 := (hA.below hx2).more hx2.size
    have hs3 := hx2.size
    have hgb := hL2.bs hlen (by omega)
    have cr := fun W => rcheck_any k i c j d s A n q W hk0 hk1 hi hc hj hd (by omega)
    have cq := fun W => check_any k i c j d s (some ⟨g, 0, none⟩) n (n + 8) W hk0 hk1 hi hc hj hd (by omega)
    by_cases h2 : checkF k i c j d n = 0
    · have hok := checkF_ok h2
      rw [h2] at cr cq
      obtain ⟨kn, rfl⟩ := Int.eq_ofNat_of_zero_le (show 0 ≤ k by omega)
      obtain ⟨m, hm⟩ : ∃ m, m = (frameL kn i c j d s l).length := ⟨_, rfl⟩
      have hml : m = 12 + ((fldL i c j d s).length + n) := by rw [hm, frameL_len, hlen]
      have hfl := fldL_len i c j d s
      have hm2 : m ≤ 10000 := by omega
      have ce := encode_yes kn i c j d s (some ⟨g, 0, none⟩) n (n + 8) m l w3 hgb hi hc hj hd hs h2 hm
      have crf := fun W (h : Bs W W.heap.size A n l) => rframe_any kn i c j d s A n q m l W h hi hc hj hd hs h2 hm
      generalize frameL kn i c j d s l = L at hm ce crf
      have HL := hide hlen
      clear hm hml hfl hok h2 hlen
      refine ce.mono ?_
      rintro e w4 ⟨A4, c4, rfl, hO4, hb4⟩
      have hP4 := hP2.later hb4
      have hQ4 := hQ2.later hb4
      have hL4 := hL2.later hb4
      have hA4 := (hA3.below hb4).more hb4.size
      have hx4 := hx2.trans (hb4.mono hs3)
      have hs4 := hx4.size
      clear ce hb4 hP2 hQ2 hL2 hA3 hx2 hgb
      obtain ⟨f0, f1, f2, f3, f4, f5, f6⟩ := hP4.cells
      go_wp2_with fail
      refine (cr _).mono ?_
      rintro e w5 ⟨rfl, hb5⟩
      have hP5 := hP4.later hb5
      have hQ5 := hQ4.later hb5
      have hL5 := hL4.later hb5
      have hO5 := hO4.later hb5
      have hA5 := (hA4.below hb5).more hb5.size
      have hx5 := hx4.trans (hb5.mono hs4)
      have hs5 := hx5.size
      clear cr hb5 hP4 hQ4 hL4 hO4 hA4 hx4 f0 f1 f2 f3 f4 f5 f6
      obtain ⟨f0, f1, f2, f3, f4, f5, f6⟩ := hP5.cells
      go_wp2_with fail
      refine (crf _ hA5).mono ?_
      rintro e w6 ⟨A6, c6, rfl, hO6, hb6⟩
      have hP6 := hP5.later hb6
      have hQ6 := hQ5.later hb6
      have hL6 := hL5.later hb6
      have hO5' := hO5.later hb6
      have hA6 := (hA5.below hb6).more hb6.size
      have hx6 := hx5.trans (hb6.mono hs5)
      have hs6 := hx6.size
      clear crf hb6 hP5 hQ5 hL5 hO5 hA5 hx5 f0 f1 f2 f3 f4 f5 f6
      go_wp2_with fail
      refine (same_eq _ _ _ _ _ _ _ _ _ _ _ hO5'.bs hO6.bs (by unfold maxLen; omega) rfl).mono ?_
      rintro e w7 ⟨rfl, hd7⟩
      have hb7 : Below w6.heap.size w6 w7 := drawn_below hd7
      have hP7 := hP6.later hb7
      have hQ7 := hQ6.later hb7
      have hL7 := hL6.later hb7
      have hA7 := (hA6.below hb7).more hb7.size
      have hx7 := hx6.trans (hb7.mono hs6)
      have hs7 := hx7.size
      clear hd7 hb7 hP6 hQ6 hL6 hO5' hO6 hA6 hx6
      obtain ⟨f0, f1, f2, f3, f4, f5, f6⟩ := hQ7.cells
      go_wp2_with fail
      refine (cq _).mono ?_
      rintro e w8 ⟨rfl, hb8⟩
      have hP8 := hP7.later hb8
      have hQ8 := hQ7.later hb8
      have hL8 := hL7.later hb8
      have hA8 := (hA7.below hb8).more hb8.size
      have hx8 := hx7.trans (hb8.mono hs7)
      have hs8 := hx8.size
      clear cq hb8 hP7 hQ7 hL7 hA7 hx7 f0 f1 f2 f3 f4 f5 f6
      obtain ⟨f0, f1, f2, f3, f4, f5, f6⟩ := hP8.cells
      obtain ⟨e0, e1, e2, e3, e4, e5, e6⟩ := hQ8.cells
      go_wp2_with fail
      refine (kept_any A n q g l _ _ hA8 hL8 (by omega)).mono ?_
      rintro e w9 ⟨rfl, hd9⟩
      have hx9 := hx8.trans ((drawn_below hd9 (B := w8.heap.size)).mono hs8)
      have hs9 := hx9.size
      clear hd9 hP8 hQ8 hL8 hA8 hx8 f0 f1 f2 f3 f4 f5 f6 e0 e1 e2 e3 e4 e5 e6
      go_wp2_with fail
      refine (awake6_any _).mono ?_
      rintro e w' ⟨rfl, hb⟩
      have hbz := hx9.trans (hb.mono hs9)
      go_wp2
      go_ret
      exact ⟨rfl, hbz⟩
    · have ce := encode_no k i c j d s (some ⟨g, 0, none⟩) n (n + 8) w3 hk0 hk1 hi hc hj hd (by omega) h2
      obtain ⟨f, hf⟩ : ∃ f, f = checkF k i c j d n := ⟨_, rfl⟩
      rw [← hf] at ce cr cq h2
      have t : ((f : Int) != 0) = true := by simp; omega
      have HL := hide hlen
      clear hf h2 hlen hL2 hA3 hgb
      refine ce.mono ?_
      rintro e w4 ⟨rfl, hb4⟩
      have hP4 := hP2.later hb4
      have hQ4 := hQ2.later hb4
      have hx4 := hx2.trans (hb4.mono hs3)
      have hs4 := hx4.size
      clear ce hb4 hP2 hQ2 hx2
      obtain ⟨f0, f1, f2, f3, f4, f5, f6⟩ := hP4.cells
      go_wp2_with fail
      refine (cr _).mono ?_
      rintro e w5 ⟨rfl, hb5⟩
      have hQ5 := hQ4.later hb5
      have hx5 := hx4.trans (hb5.mono hs4)
      have hs5 := hx5.size
      clear cr hb5 hP4 hQ4 hx4 f0 f1 f2 f3 f4 f5 f6
      obtain ⟨f0, f1, f2, f3, f4, f5, f6⟩ := hQ5.cells
      go_wp2_with fail
      refine (cq _).mono ?_
      rintro e w6 ⟨rfl, hb6⟩
      have hx6 := hx5.trans (hb6.mono hs5)
      have hs6 := hx6.size
      clear cq hb6 hQ5 hx5 f0 f1 f2 f3 f4 f5 f6
      go_wp2_with fail
      refine (awake6_any _).mono ?_
      rintro e w' ⟨rfl, hb⟩
      have hbz := hx6.trans (hb.mono hs6)
      go_wp2
      go_ret
      exact ⟨rfl, hbz⟩

/-! ### THE ROW's STEP -/
set_option maxRecDepth 100000 in
theorem lifted (os : Os) (started : os.Started) (H : Type) (enc : TypeId × Value → H) :
    ReturnsInHanded {} Try.checked os 3 .any (Rows.frameEncodesSpec.pre6 enc Try.prog Try.f3 Rows.frameEncodesRow.domain false) (Rows.frameEncodesSpec.post enc Try.prog Try.f3 false true false false) := by
  refine returnsInHanded_of_change (C := Try.checked) own started (by kernel_rfl) Try.func3
    (ChangeSpec.witness6 (enc := enc) (C := Try.checked) false ⟨#[], #[.agg #[.int .i64 0, .int .u16 0, .int .u32 0, .int .u16 0, .int .u32 0, .int .u64 0, .slice none 0 0]], []⟩ 8 (by kernel_rfl) (by kernel_rfl) (by kernel_rfl) (by kernel_rfl)) ?_
  intro W base args ds gs before hval0 hW hcnd _
  have hval : ∀ (j : Nat) t v, Try.f3.params[j]? = some t → args[j]? = some v → Value.okWide Try.prog W .any base t v := hval0
  have hW' := hW
  obtain ⟨p, q, hA0, hV, rfl, hfz, hnd⟩ := hW
  have hA : DataW.TrodAll enc Try.prog W 0 (fun _ => true) true Try.f3.params.toList args.toList ds p := hA0
  rw [Try.params3] at hA hval
  obtain ⟨v0, vs0, d0, ds0, p0, q0, hargs, rfl, rfl, h0, r0⟩ := trodAll_cons hA
  obtain ⟨rfl, rfl, rfl⟩ := trodAll_nil r0
  obtain rfl : args = #[v0] := by cases args; simp_all
  obtain ⟨rfl, rfl⟩ := trodVars_none hV
  have k0 := h0
  have lt0 : ∀ x ∈ p0, x.block < W.heap.size := by obtain ⟨m, hm⟩ := k0; exact DataW.trod_lt m _ _ _ hm
  obtain ⟨k0x, i0x, c0x, j0x, d0x, s0x, a0, n0, q0, l0, rfl, hp0⟩ := open_packet (hval 0 29 v0 rfl rfl) h0
  clear hA0 hval0
  refine (walk k0x i0x c0x j0x d0x s0x a0 n0 q0 l0 W hp0).mono fun e W' ⟨he, bel⟩ => ?_
  subst he
  exact ⟨_, rfl, _, _, _, [], _, [], hW', trodAll_mk1 (shut_bool Try.underlying4 _), (trodAll_cons_mk (Below.trod laidOut (by kernel_rfl) (of_decide_eq_true (by kernel_rfl)) k0 bel lt0) trodAll_mk0), rfl, bel.frame _, fun h => by cases h⟩

theorem over : Rows.frameEncodesRow.holds Try.pinned (OpenSpec.ofChange Rows.frameEncodesSpec) :=
  OpenClaim.holds_of_wide 3 Try.f3 rfl rfl rfl rfl rfl rfl rfl ⟨rfl, rfl, rfl, rfl, rfl⟩ rfl rfl rfl rfl rfl (by kernel_rfl) Try.func3 (by kernel_rfl)
    (of_decide_eq_true (by kernel_rfl)) (by unfold Func.isWrapper; first | (rw [if_pos (by decide +kernel)]; kernel_rfl) | (rw [if_neg (by decide +kernel)]; exact ⟨rfl, rfl⟩))
    (fun os started H enc _ => lifted os started H enc)

theorem proved : Rows.FrameEncodesSaid := over
#print axioms proved
end Go.Proofs.Ytkhkihobbfecoaa.frameEncodes
