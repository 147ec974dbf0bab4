/-
  The law choraguslaw06.FrameDecodes answers true, and does not panic, for every argument that its row allows. Conditions: none but the row's own.
-/
import Derived.Test.YtkhkihobbfecoaaRows
import Derived.WalkKit
import Derived.ProofKit
import Derived.OpenShut
import Derived.ShutString
import Derived.ChangeOld
import Derived.Below
import Derived.Test.YtkhkihobbfecoaaOpen
import Derived.Test.YtkhkihobbfecoaaOpenF
import Derived.Test.YtkhkihobbfecoaaFrame3
import Derived.Test.YtkhkihobbfecoaaFrame5
import Derived.Test.YtkhkihobbfecoaaFrame12
namespace Go.Proofs.Ytkhkihobbfecoaa.frameDecodes
open Go.ChangeShapes Go.WideShapes Go.ChangeAt Go.RowKit
open Go.ChangeMaps (open_string shut_string)
set_option linter.unusedVariables false
set_option linter.unusedSimpArgs false

set_option maxRecDepth 100000 in
set_option maxHeartbeats 1000000 in
theorem walk (A : Option Addr) (n c : Nat) (zs : List Int) (w : World) (w0 : IsRow .u8 w A n c zs) (_b : ∀ x, A = some x → 0 < n → x.block < w.heap.size) :
    Calls Try.prog 4 #[.slice A n c] w fun e w' => e = .returned (.bool true) ∧ Below w.heap.size w w' := by
  obtain ⟨l, hA, hnc, hc⟩ := isRow_bytes w0
  clear w0 _b
  have hlen := hA.len
  by_cases h1 : 5000 < n
  · have t1 : ((n : Int) > 5000) = True := by simp; omega
    go_enter Try.func4, Try.ntmps4
    go_wp2_with fail
    refine (awake6_any _).mono ?_
    rintro e w' ⟨rfl, hb⟩
    go_wp2
    go_ret
    exact ⟨rfl, hb⟩
  · have t1 : ((n : Int) > 5000) = False := by simp; omega
    go_enter Try.func4, Try.ntmps4
    go_wp2_with fail
    refine (lent_any A n c l _ w hA (Nat.le_refl _) (by omega)).mono ?_
    rintro e w1 ⟨rfl, hL1, hb1⟩
    generalize w.heap.size = g at hL1 ⊢
    have hA1 := (hA.below hb1).more hb1.size
    have hs1 := hb1.size
    have cd := decode_any (some ⟨g, 0, none⟩) n (n + 8) l w1 (hL1.bs hlen (by omega)) (by omega) (by unfold maxLen; omega) (by omega)
    go_wp2_with fail
    by_cases hz : decE l = 0
    · refine cd.mono ?_
      rintro e w2 h
      obtain ⟨hb2, h⟩ := h
      rcases h with ⟨h0, _⟩ | ⟨k, i, c', j, d, s, r, A1, q1, _, hI1, _, rfl, hO1⟩
      · exact absurd hz h0
      have hr1 := hO1.cap
      have hr2 := hO1.room
      have hA2 := (hA1.below hb2).more hb2.size
      have hL2 : LentB w2 g l := LentB.later hL1 hb2
      have hx2 := hb1.trans (hb2.mono hs1)
      have hs2 := hx2.size
      have hA3 := (hA2.alloc (Nat.le_refl _) (.cells #[.int .i64 (k : Int), .int .u16 (i : Int), .int .u32 (c' : Int), .int .u16 (j : Int), .int .u32 (d : Int), .int .u64 (s : Int), .slice A1 (r.length) q1] 29)).more (B' := (w2.alloc (.cells #[.int .i64 (k : Int), .int .u16 (i : Int), .int .u32 (c' : Int), .int .u16 (j : Int), .int .u32 (d : Int), .int .u64 (s : Int), .slice A1 (r.length) q1] 29)).heap.size) (by simp)
      have hL3 : LentB (w2.alloc (.cells #[.int .i64 (k : Int), .int .u16 (i : Int), .int .u32 (c' : Int), .int .u16 (j : Int), .int .u32 (d : Int), .int .u64 (s : Int), .slice A1 (r.length) q1] 29)) g l := BlkB.alloc hL2 _
      have hx3 := hx2.alloc hs2 (.cells #[.int .i64 (k : Int), .int .u16 (i : Int), .int .u32 (c' : Int), .int .u16 (j : Int), .int .u32 (d : Int), .int .u64 (s : Int), .slice A1 (r.length) q1] 29)
      have hP3 := PkAt.new (k := (k : Int)) (i := i) (c := c') (j := j) (d := d) (s := s) (A := A1) (n := r.length) (q := q1) w2
      have hl3 : w2.heap.size < (w2.alloc (.cells #[.int .i64 (k : Int), .int .u16 (i : Int), .int .u32 (c' : Int), .int .u16 (j : Int), .int .u32 (d : Int), .int .u64 (s : Int), .slice A1 (r.length) q1] 29)).heap.size := by simp
      have hR3 := hO1.alloc (.cells #[.int .i64 (k : Int), .int .u16 (i : Int), .int .u32 (c' : Int), .int .u16 (j : Int), .int .u32 (d : Int), .int .u64 (s : Int), .slice A1 (r.length) q1] 29)
      have cr := rdecode_any A n c l (w2.alloc (.cells #[.int .i64 (k : Int), .int .u16 (i : Int), .int .u32 (c' : Int), .int .u16 (j : Int), .int .u32 (d : Int), .int .u64 (s : Int), .slice A1 (r.length) q1] 29)) hA3 hnc hc (by omega)
      clear hb2 hA2 hL2 hx2 hA1 hL1 hb1 hs1 cd
      go_wp2_with fail
      generalize (w2.alloc (.cells #[.int .i64 (k : Int), .int .u16 (i : Int), .int .u32 (c' : Int), .int .u16 (j : Int), .int .u32 (d : Int), .int .u64 (s : Int), .slice A1 (r.length) q1] 29)) = w3 at hA3 hL3 hx3 hP3 hl3 cr hR3 ⊢
      refine cr.mono ?_
      rintro e w4 h
      obtain ⟨hb4, h⟩ := h
      rcases h with ⟨h0, _⟩ | ⟨k2, i2, c2, j2, d2, s2, r2, A2, q2, _, hI2, _, rfl, hO2⟩
      · exact absurd hz h0
      obtain ⟨rfl, rfl, rfl, rfl, rfl, rfl, rfl⟩ := isP_same hI1 hI2
      have hs3 := hx3.size
      have hA4 := (hA3.below hb4).more hb4.size
      have hL4 : LentB w4 g l := LentB.later hL3 hb4
      have hx4 := hx3.trans (hb4.mono hs3)
      have hP4 := hP3.later hb4
      have hl4 := hP4.lt
      have hR4 := hR3.later hb4
      have hs4 := hx4.size
      have hA5 := (hA4.alloc (Nat.le_refl _) (.cells #[.int .i64 (k2 : Int), .int .u16 (i2 : Int), .int .u32 (c2 : Int), .int .u16 (j2 : Int), .int .u32 (d2 : Int), .int .u64 (s2 : Int), .slice A2 (r2.length) q2] 29)).more (B' := (w4.alloc (.cells #[.int .i64 (k2 : Int), .int .u16 (i2 : Int), .int .u32 (c2 : Int), .int .u16 (j2 : Int), .int .u32 (d2 : Int), .int .u64 (s2 : Int), .slice A2 (r2.length) q2] 29)).heap.size) (by simp)
      have hL5 : LentB (w4.alloc (.cells #[.int .i64 (k2 : Int), .int .u16 (i2 : Int), .int .u32 (c2 : Int), .int .u16 (j2 : Int), .int .u32 (d2 : Int), .int .u64 (s2 : Int), .slice A2 (r2.length) q2] 29)) g l := BlkB.alloc hL4 _
      have hx5 := hx4.alloc hs4 (.cells #[.int .i64 (k2 : Int), .int .u16 (i2 : Int), .int .u32 (c2 : Int), .int .u16 (j2 : Int), .int .u32 (d2 : Int), .int .u64 (s2 : Int), .slice A2 (r2.length) q2] 29)
      have hP5 := hP4.alloc (.cells #[.int .i64 (k2 : Int), .int .u16 (i2 : Int), .int .u32 (c2 : Int), .int .u16 (j2 : Int), .int .u32 (d2 : Int), .int .u64 (s2 : Int), .slice A2 (r2.length) q2] 29)
      have hR5 := (hR4.alloc (.cells #[.int .i64 (k2 : Int), .int .u16 (i2 : Int), .int .u32 (c2 : Int), .int .u16 (j2 : Int), .int .u32 (d2 : Int), .int .u64 (s2 : Int), .slice A2 (r2.length) q2] 29)).bs
      have hT5 := (hO2.alloc (.cells #[.int .i64 (k2 : Int), .int .u16 (i2 : Int), .int .u32 (c2 : Int), .int .u16 (j2 : Int), .int .u32 (d2 : Int), .int .u64 (s2 : Int), .slice A2 (r2.length) q2] 29)).bs
      obtain ⟨f0, f1, f2, f3, f4, f5, f6⟩ := hP4.cells
      clear hb4 hA4 hL4 hx4 hA3 hL3 hx3 hP3 hP5 hl3 cr
      go_wp2_with fail
      generalize (w4.alloc (.cells #[.int .i64 (k2 : Int), .int .u16 (i2 : Int), .int .u32 (c2 : Int), .int .u16 (j2 : Int), .int .u32 (d2 : Int), .int .u64 (s2 : Int), .slice A2 (r2.length) q2] 29)) = w5 at hA5 hL5 hx5 hR5 hT5 ⊢
      refine (rsame6_any k2 i2 c2 j2 d2 s2 A1 r2.length q1 r2 k2 i2 c2 j2 d2 s2 A2 r2.length q2 r2 w5 hR5 hT5 (Nat.le_trans hr1 hr2) (Nat.le_trans hr1 hr2)).mono ?_
      rintro e w6 ⟨rfl, hb6⟩
      rw [sameQ_self]
      have hs5 := hx5.size
      have hA6 := (hA5.below hb6).more hb6.size
      have hL6 : LentB w6 g l := LentB.later hL5 hb6
      have hx6 := hx5.trans (hb6.mono hs5)
      have hs6 := hx6.size
      clear hb6 hA5 hL5 hx5 f0 f1 f2 f3 f4 f5 f6
      go_wp2_with fail
      refine (kept_any A n c g l _ _ hA6 hL6 (by omega)).mono ?_
      rintro e w7 ⟨rfl, hd7⟩
      have hx7 := hx6.trans ((drawn_below hd7 (B := w6.heap.size)).mono hs6)
      have hs7 := hx7.size
      clear hd7 hA6 hL6 hx6
      go_wp2_with fail
      refine (awake6_any _).mono ?_
      rintro e w' ⟨rfl, hb⟩
      have hbz := hx7.trans (hb.mono hs7)
      go_wp2
      go_ret
      exact ⟨rfl, hbz⟩
    · obtain ⟨f, hf⟩ : ∃ f, f = decE l := ⟨_, rfl⟩
      refine cd.mono ?_
      rintro e w2 h
      obtain ⟨hb2, rfl⟩ := decodeP_no h hz
      rw [← hf]
      clear h
      have hA2 := (hA1.below hb2).more hb2.size
      have hL2 : LentB w2 g l := LentB.later hL1 hb2
      have hx2 := hb1.trans (hb2.mono hs1)
      have hs2 := hx2.size
      have hA3 := (hA2.alloc (Nat.le_refl _) (.cells #[.int .i64 (0 : Int), .int .u16 (0 : Int), .int .u32 (0 : Int), .int .u16 (0 : Int), .int .u32 (0 : Int), .int .u64 (0 : Int), .slice none 0 0] 29)).more (B' := (w2.alloc (.cells #[.int .i64 (0 : Int), .int .u16 (0 : Int), .int .u32 (0 : Int), .int .u16 (0 : Int), .int .u32 (0 : Int), .int .u64 (0 : Int), .slice none 0 0] 29)).heap.size) (by simp)
      have hL3 : LentB (w2.alloc (.cells #[.int .i64 (0 : Int), .int .u16 (0 : Int), .int .u32 (0 : Int), .int .u16 (0 : Int), .int .u32 (0 : Int), .int .u64 (0 : Int), .slice none 0 0] 29)) g l := BlkB.alloc hL2 _
      have hx3 := hx2.alloc hs2 (.cells #[.int .i64 (0 : Int), .int .u16 (0 : Int), .int .u32 (0 : Int), .int .u16 (0 : Int), .int .u32 (0 : Int), .int .u64 (0 : Int), .slice none 0 0] 29)
      have hP3 := PkAt.new (k := 0) (i := 0) (c := 0) (j := 0) (d := 0) (s := 0) (A := none) (n := 0) (q := 0) w2
      have hl3 : w2.heap.size < (w2.alloc (.cells #[.int .i64 (0 : Int), .int .u16 (0 : Int), .int .u32 (0 : Int), .int .u16 (0 : Int), .int .u32 (0 : Int), .int .u64 (0 : Int), .slice none 0 0] 29)).heap.size := by simp
      have cr := rdecode_any A n c l (w2.alloc (.cells #[.int .i64 (0 : Int), .int .u16 (0 : Int), .int .u32 (0 : Int), .int .u16 (0 : Int), .int .u32 (0 : Int), .int .u64 (0 : Int), .slice none 0 0] 29)) hA3 hnc hc (by omega)
      clear hb2 hA2 hL2 hx2 hA1 hL1 hb1 hs1 cd
      go_wp2_with fail
      generalize (w2.alloc (.cells #[.int .i64 (0 : Int), .int .u16 (0 : Int), .int .u32 (0 : Int), .int .u16 (0 : Int), .int .u32 (0 : Int), .int .u64 (0 : Int), .slice none 0 0] 29)) = w3 at hA3 hL3 hx3 hP3 hl3 cr  ⊢
      refine cr.mono ?_
      rintro e w4 h
      obtain ⟨hb4, rfl⟩ := decodeP_no h hz
      rw [← hf]
      clear h
      have hs3 := hx3.size
      have hA4 := (hA3.below hb4).more hb4.size
      have hL4 : LentB w4 g l := LentB.later hL3 hb4
      have hx4 := hx3.trans (hb4.mono hs3)
      have hP4 := hP3.later hb4
      have hl4 := hP4.lt
      have hs4 := hx4.size
      have hA5 := (hA4.alloc (Nat.le_refl _) (.cells #[.int .i64 (0 : Int), .int .u16 (0 : Int), .int .u32 (0 : Int), .int .u16 (0 : Int), .int .u32 (0 : Int), .int .u64 (0 : Int), .slice none 0 0] 29)).more (B' := (w4.alloc (.cells #[.int .i64 (0 : Int), .int .u16 (0 : Int), .int .u32 (0 : Int), .int .u16 (0 : Int), .int .u32 (0 : Int), .int .u64 (0 : Int), .slice none 0 0] 29)).heap.size) (by simp)
      have hL5 : LentB (w4.alloc (.cells #[.int .i64 (0 : Int), .int .u16 (0 : Int), .int .u32 (0 : Int), .int .u16 (0 : Int), .int .u32 (0 : Int), .int .u64 (0 : Int), .slice none 0 0] 29)) g l := BlkB.alloc hL4 _
      have hx5 := hx4.alloc hs4 (.cells #[.int .i64 (0 : Int), .int .u16 (0 : Int), .int .u32 (0 : Int), .int .u16 (0 : Int), .int .u32 (0 : Int), .int .u64 (0 : Int), .slice none 0 0] 29)
      have hP5 := hP4.alloc (.cells #[.int .i64 (0 : Int), .int .u16 (0 : Int), .int .u32 (0 : Int), .int .u16 (0 : Int), .int .u32 (0 : Int), .int .u64 (0 : Int), .slice none 0 0] 29)
      obtain ⟨f0, f1, f2, f3, f4, f5, f6⟩ := hP4.cells
      clear hb4 hA4 hL4 hx4 hA3 hL3 hx3 hP3 hP5 hl3 cr
      go_wp2_with fail
      generalize (w4.alloc (.cells #[.int .i64 (0 : Int), .int .u16 (0 : Int), .int .u32 (0 : Int), .int .u16 (0 : Int), .int .u32 (0 : Int), .int .u64 (0 : Int), .slice none 0 0] 29)) = w5 at hA5 hL5 hx5  ⊢
      refine (rsame6_any 0 0 0 0 0 0 none 0 0 [] 0 0 0 0 0 0 none 0 0 [] w5 Bs.none_ Bs.none_ (by decide) (by decide)).mono ?_
      rintro e w6 ⟨rfl, hb6⟩
      rw [sameQ_self]
      have hs5 := hx5.size
      have hA6 := (hA5.below hb6).more hb6.size
      have hL6 : LentB w6 g l := LentB.later hL5 hb6
      have hx6 := hx5.trans (hb6.mono hs5)
      have hs6 := hx6.size
      clear hb6 hA5 hL5 hx5 f0 f1 f2 f3 f4 f5 f6
      go_wp2_with fail
      refine (kept_any A n c g l _ _ hA6 hL6 (by omega)).mono ?_
      rintro e w7 ⟨rfl, hd7⟩
      have hx7 := hx6.trans ((drawn_below hd7 (B := w6.heap.size)).mono hs6)
      have hs7 := hx7.size
      clear hd7 hA6 hL6 hx6
      go_wp2_with fail
      refine (awake6_any _).mono ?_
      rintro e w' ⟨rfl, hb⟩
      have hbz := hx7.trans (hb.mono hs7)
      go_wp2
      go_ret
      exact ⟨rfl, hbz⟩

/-! ### THE ROW's STEP -/
set_option maxRecDepth 100000 in
theorem lifted (os : Os) (started : os.Started) (H : Type) (enc : TypeId × Value → H) :
    ReturnsInHanded {} Try.checked os 4 .any (Rows.frameDecodesSpec.pre6 enc Try.prog Try.f4 Rows.frameDecodesRow.domain false) (Rows.frameDecodesSpec.post enc Try.prog Try.f4 false true false false) := by
  refine returnsInHanded_of_change (C := Try.checked) own started (by kernel_rfl) Try.func4
    (ChangeSpec.witness6 (enc := enc) (C := Try.checked) false ⟨#[], #[.slice none 0 0], []⟩ 8 (by kernel_rfl) (by kernel_rfl) (by kernel_rfl) (by kernel_rfl)) ?_
  intro W base args ds gs before hval0 hW hcnd _
  have hval : ∀ (j : Nat) t v, Try.f4.params[j]? = some t → args[j]? = some v → Value.okWide Try.prog W .any base t v := hval0
  have hW' := hW
  obtain ⟨p, q, hA0, hV, rfl, hfz, hnd⟩ := hW
  have hA : DataW.TrodAll enc Try.prog W 0 (fun _ => true) true Try.f4.params.toList args.toList ds p := hA0
  rw [Try.params4] at hA hval
  obtain ⟨v0, vs0, d0, ds0, p0, q0, hargs, rfl, rfl, h0, r0⟩ := trodAll_cons hA
  obtain ⟨rfl, rfl, rfl⟩ := trodAll_nil r0
  obtain rfl : args = #[v0] := by cases args; simp_all
  obtain ⟨rfl, rfl⟩ := trodVars_none hV
  have k0 := h0
  have lt0 : ∀ x ∈ p0, x.block < W.heap.size := by obtain ⟨m, hm⟩ := k0; exact DataW.trod_lt m _ _ _ hm
  obtain ⟨a0, len0, cap0, rfl⟩ := okWide_slice Try.underlying27 (hval 0 27 v0 rfl rfl)
  obtain ⟨z0, w0⟩ : ∃ zs, IsRow .u8 W a0 len0 cap0 zs := by
    obtain ⟨fuel, hf⟩ := h0
    rcases open_ints Try.underlying27 Try.underlying5 (by kernel_rfl) hf with ⟨hcs, _⟩ | ⟨x, l, c, zs, hcs, _, hl, hm, hz, _, hcell, hwz⟩
    · simp [Value.cells] at hcs
      obtain ⟨rfl, rfl, rfl⟩ := hcs
      exact ⟨[], .inl ⟨rfl, rfl, rfl, rfl⟩⟩
    · simp [Value.cells] at hcs
      obtain ⟨rfl, rfl, rfl⟩ := hcs
      exact ⟨zs, .inr ⟨_, rfl, hl, hm, by simpa using hz, hcell, hwz⟩⟩
  have b0 : ∀ x, a0 = some x → 0 < len0 → x.block < W.heap.size := isRow_block w0
  clear hA0 hval0
  refine (walk a0 len0 cap0 z0 W w0 b0).mono fun e W' ⟨he, bel⟩ => ?_
  subst he
  exact ⟨_, rfl, _, _, _, [], _, [], hW', trodAll_mk1 (shut_bool Try.underlying4 _), (trodAll_cons_mk (Below.trod laidOut (by kernel_rfl) (of_decide_eq_true (by kernel_rfl)) k0 bel lt0) trodAll_mk0), rfl, bel.frame _, fun h => by cases h⟩

theorem over : Rows.frameDecodesRow.holds Try.pinned (OpenSpec.ofChange Rows.frameDecodesSpec) :=
  OpenClaim.holds_of_wide 4 Try.f4 rfl rfl rfl rfl rfl rfl rfl ⟨rfl, rfl, rfl, rfl, rfl⟩ rfl rfl rfl rfl rfl (by kernel_rfl) Try.func4 (by kernel_rfl)
    (of_decide_eq_true (by kernel_rfl)) (by unfold Func.isWrapper; first | (rw [if_pos (by decide +kernel)]; kernel_rfl) | (rw [if_neg (by decide +kernel)]; exact ⟨rfl, rfl⟩))
    (fun os started H enc _ => lifted os started H enc)

theorem proved : Rows.FrameDecodesSaid := over
#print axioms proved
end Go.Proofs.Ytkhkihobbfecoaa.frameDecodes
