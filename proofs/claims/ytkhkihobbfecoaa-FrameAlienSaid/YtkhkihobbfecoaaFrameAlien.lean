/-
  The law choraguslaw06.FrameAlien answers true, and does not panic, for every argument that its row allows. Conditions: none but the row's own.
-/
import Derived.Test.YtkhkihobbfecoaaRows
import Derived.WalkKit
import Derived.ProofKit
import Derived.OpenShut
import Derived.ShutString
import Derived.ChangeOld
import Derived.Below
import Derived.Test.YtkhkihobbfecoaaOpen
import Derived.Test.YtkhkihobbfecoaaOpenF
import Derived.Test.YtkhkihobbfecoaaFrame3
import Derived.Test.YtkhkihobbfecoaaFrame5
import Derived.Test.YtkhkihobbfecoaaFrame9
namespace Go.Proofs.Ytkhkihobbfecoaa.frameAlien
open Go.ChangeShapes Go.WideShapes Go.ChangeAt Go.RowKit
open Go.ChangeMaps (open_string shut_string)
set_option linter.unusedVariables false
set_option linter.unusedSimpArgs false

set_option maxRecDepth 100000 in
set_option maxHeartbeats 1000000 in
theorem walk (A : Option Addr) (n c : Nat) (zs : List Int) (w : World) (w0 : IsRow .u8 w A n c zs) (_b : ∀ x, A = some x → 0 < n → x.block < w.heap.size) :
    Calls Try.prog 7 #[.slice A n c] w fun e w' => e = .returned (.bool true) ∧ Below w.heap.size w w' := by
  obtain ⟨l, hA, hnc, hc⟩ := isRow_bytes w0
  clear w0 _b
  by_cases h1 : 5000 < n
  · have t1 : ((n : Int) > 5000) = True := by simp; omega
    go_enter Try.func7, Try.ntmps7
    go_wp2_with fail
    refine (awake6_any _).mono ?_
    rintro e w' ⟨rfl, hb⟩
    go_wp2
    go_ret
    exact ⟨rfl, hb⟩
  · have t1 : ((n : Int) > 5000) = False := by simp; omega
    by_cases h2 : n < 12
    · have t2 : ((n : Int) < 12) = True := by simp; omega
      go_enter Try.func7, Try.ntmps7
      go_wp2_with fail
      refine (awake6_any _).mono ?_
      rintro e w' ⟨rfl, hb⟩
      go_wp2
      go_ret
      exact ⟨rfl, hb⟩
    · have t2 : ((n : Int) < 12) = False := by simp; omega
      have hlen := hA.len
      have cd := decode_any A n c l w hA hnc hc (by omega)
      obtain ⟨ad, rfl, hbl, hcell⟩ := hA.2 (by omega)
      obtain ⟨x0, x1, x2, tl, rfl⟩ : ∃ x0 x1 x2 tl, l = x0 :: x1 :: x2 :: tl := by
        match l, (show 3 ≤ l.length by omega) with
        | x0 :: x1 :: x2 :: tl, _ => exact ⟨x0, x1, x2, tl, rfl⟩
      have c0 : w.cell? ad = some (.int .u8 (x0.toNat : Int)) := hcell 0 x0 rfl
      have c1 : w.cell? (ad.add 1) = some (.int .u8 (x1.toNat : Int)) := hcell 1 x1 rfl
      have c2 : w.cell? (ad.add 2) = some (.int .u8 (x2.toNat : Int)) := hcell 2 x2 rfl
      have hal := fun h => decE_2 (l := x0 :: x1 :: x2 :: tl) (by omega) h
      have htk : (x0 :: x1 :: x2 :: tl).take 3 = [x0, x1, x2] := rfl
      rw [htk] at hal
      clear hcell hlen htk hA
      generalize x0 :: x1 :: x2 :: tl = l at cd hal
      by_cases e0 : x0 = 86
      · subst e0
        by_cases e1 : x1 = 83
        · subst e1
          by_cases e2 : x2 = 1
          · subst e2
            clear hal
            have q0 : (86 : UInt8).toNat = 86 := rfl
            have q1 : (83 : UInt8).toNat = 83 := rfl
            have q2 : (1 : UInt8).toNat = 1 := rfl
            rw [q0] at c0
            rw [q1] at c1
            rw [q2] at c2
            clear q0 q1 q2
            go_enter Try.func7, Try.ntmps7
            go_wp2_with fail
            refine cd.mono ?_
            rintro e w1 h
            obtain ⟨hb1, k, i, c', j, d, s, A2, n2, q2, t, rfl⟩ := decodeP_some h
            clear h
            have hsz := hb1.size
            have k0 : (w1.alloc (.cells #[.int .i64 (k : Int), .int .u16 (i : Int), .int .u32 (c' : Int), .int .u16 (j : Int), .int .u32 (d : Int), .int .u64 (s : Int), .slice A2 n2 q2] 29)).cell? ad = some (.int .u8 86) := (World.cell?_alloc_lt _ _ ad (Nat.lt_of_lt_of_le hbl hsz)).trans ((hb1.cell (p := ad) hbl).trans c0)
            have k1 : (w1.alloc (.cells #[.int .i64 (k : Int), .int .u16 (i : Int), .int .u32 (c' : Int), .int .u16 (j : Int), .int .u32 (d : Int), .int .u64 (s : Int), .slice A2 n2 q2] 29)).cell? ⟨ad.block, ad.off + 1, none⟩ = some (.int .u8 83) := (World.cell?_alloc_lt _ _ ⟨ad.block, ad.off + 1, none⟩ (Nat.lt_of_lt_of_le hbl hsz)).trans ((hb1.cell (p := ⟨ad.block, ad.off + 1, none⟩) hbl).trans c1)
            have k2 : (w1.alloc (.cells #[.int .i64 (k : Int), .int .u16 (i : Int), .int .u32 (c' : Int), .int .u16 (j : Int), .int .u32 (d : Int), .int .u64 (s : Int), .slice A2 n2 q2] 29)).cell? ⟨ad.block, ad.off + 2, none⟩ = some (.int .u8 1) := (World.cell?_alloc_lt _ _ ⟨ad.block, ad.off + 2, none⟩ (Nat.lt_of_lt_of_le hbl hsz)).trans ((hb1.cell (p := ⟨ad.block, ad.off + 2, none⟩) hbl).trans c2)
            clear c0 c1 c2 cd
            have hx1 := hb1.alloc hb1.size (.cells #[.int .i64 (k : Int), .int .u16 (i : Int), .int .u32 (c' : Int), .int .u16 (j : Int), .int .u32 (d : Int), .int .u64 (s : Int), .slice A2 n2 q2] 29)
            have hs1 := hb1.size
            clear hb1
            go_wp2_with fail
            refine (awake6_any _).mono ?_
            rintro e w' ⟨rfl, hb⟩
            have hbz := hx1.trans (hb.mono (by simp; omega))
            go_wp2
            go_ret
            exact ⟨rfl, hbz⟩
          · have hne : True := trivial
            have h6 := hal (by simp only [ne_eq, List.cons.injEq, not_and]; intro _ _; simpa using e2)
            clear hal
            have d2 : ((x2.toNat : Int) == 1) = false := by
              rw [beq_eq_false_iff_ne]
              intro e
              exact e2 (UInt8.toNat_inj.1 (show x2.toNat = (1 : UInt8).toNat from by simpa using (show x2.toNat = 1 by omega)))
            have q0 : (86 : UInt8).toNat = 86 := rfl
            rw [q0] at c0
            clear q0
            have q1 : (83 : UInt8).toNat = 83 := rfl
            rw [q1] at c1
            clear q1
            generalize x2.toNat = y2 at *
            go_enter Try.func7, Try.ntmps7
            go_wp2_with fail
            refine cd.mono ?_
            rintro e w1 h
            obtain ⟨hb1, rfl⟩ := decodeP_no h (by rw [h6]; decide)
            clear h
            rw [h6]
            have hsz := hb1.size
            have k0 : (w1.alloc (.cells #[.int .i64 (0 : Int), .int .u16 (0 : Int), .int .u32 (0 : Int), .int .u16 (0 : Int), .int .u32 (0 : Int), .int .u64 (0 : Int), .slice none 0 0] 29)).cell? ad = some (.int .u8 86) := (World.cell?_alloc_lt _ _ ad (Nat.lt_of_lt_of_le hbl hsz)).trans ((hb1.cell (p := ad) hbl).trans c0)
            have k1 : (w1.alloc (.cells #[.int .i64 (0 : Int), .int .u16 (0 : Int), .int .u32 (0 : Int), .int .u16 (0 : Int), .int .u32 (0 : Int), .int .u64 (0 : Int), .slice none 0 0] 29)).cell? ⟨ad.block, ad.off + 1, none⟩ = some (.int .u8 83) := (World.cell?_alloc_lt _ _ ⟨ad.block, ad.off + 1, none⟩ (Nat.lt_of_lt_of_le hbl hsz)).trans ((hb1.cell (p := ⟨ad.block, ad.off + 1, none⟩) hbl).trans c1)
            have k2 : (w1.alloc (.cells #[.int .i64 (0 : Int), .int .u16 (0 : Int), .int .u32 (0 : Int), .int .u16 (0 : Int), .int .u32 (0 : Int), .int .u64 (0 : Int), .slice none 0 0] 29)).cell? ⟨ad.block, ad.off + 2, none⟩ = some (.int .u8 (y2 : Int)) := (World.cell?_alloc_lt _ _ ⟨ad.block, ad.off + 2, none⟩ (Nat.lt_of_lt_of_le hbl hsz)).trans ((hb1.cell (p := ⟨ad.block, ad.off + 2, none⟩) hbl).trans c2)
            clear c0 c1 c2 cd
            have hx1 := hb1.alloc hb1.size (.cells #[.int .i64 (0 : Int), .int .u16 (0 : Int), .int .u32 (0 : Int), .int .u16 (0 : Int), .int .u32 (0 : Int), .int .u64 (0 : Int), .slice none 0 0] 29)
            have hs1 := hb1.size
            clear hb1 h6
            go_wp2_with fail
            refine (rsame6_any 0 0 0 0 0 0 none 0 0 [] 0 0 0 0 0 0 none 0 0 [] _ Bs.none_ Bs.none_ (by decide) (by decide)).mono ?_
            rintro e w2 ⟨rfl, hb2⟩
            rw [sameQ_self]
            have hx2 := hx1.trans (hb2.mono (by simp; omega))
            have hs2 := hx2.size
            clear hx1 hb2
            go_wp2_with fail
            refine (awake6_any _).mono ?_
            rintro e w' ⟨rfl, hb⟩
            have hbz := hx2.trans (hb.mono hs2)
            go_wp2
            go_ret
            exact ⟨rfl, hbz⟩
        · have hne : True := trivial
          have h6 := hal (by simp only [ne_eq, List.cons.injEq, not_and]; exact fun _ e => absurd e e1)
          clear hal
          have d1 : ((x1.toNat : Int) == 83) = false := by
            rw [beq_eq_false_iff_ne]
            intro e
            exact e1 (UInt8.toNat_inj.1 (show x1.toNat = (83 : UInt8).toNat from by simpa using (show x1.toNat = 83 by omega)))
          have q0 : (86 : UInt8).toNat = 86 := rfl
          rw [q0] at c0
          clear q0
          generalize x1.toNat = y1 at *
          generalize x2.toNat = y2 at *
          go_enter Try.func7, Try.ntmps7
          go_wp2_with fail
          refine cd.mono ?_
          rintro e w1 h
          obtain ⟨hb1, rfl⟩ := decodeP_no h (by rw [h6]; decide)
          clear h
          rw [h6]
          have hsz := hb1.size
          have k0 : (w1.alloc (.cells #[.int .i64 (0 : Int), .int .u16 (0 : Int), .int .u32 (0 : Int), .int .u16 (0 : Int), .int .u32 (0 : Int), .int .u64 (0 : Int), .slice none 0 0] 29)).cell? ad = some (.int .u8 86) := (World.cell?_alloc_lt _ _ ad (Nat.lt_of_lt_of_le hbl hsz)).trans ((hb1.cell (p := ad) hbl).trans c0)
          have k1 : (w1.alloc (.cells #[.int .i64 (0 : Int), .int .u16 (0 : Int), .int .u32 (0 : Int), .int .u16 (0 : Int), .int .u32 (0 : Int), .int .u64 (0 : Int), .slice none 0 0] 29)).cell? ⟨ad.block, ad.off + 1, none⟩ = some (.int .u8 (y1 : Int)) := (World.cell?_alloc_lt _ _ ⟨ad.block, ad.off + 1, none⟩ (Nat.lt_of_lt_of_le hbl hsz)).trans ((hb1.cell (p := ⟨ad.block, ad.off + 1, none⟩) hbl).trans c1)
          have k2 : (w1.alloc (.cells #[.int .i64 (0 : Int), .int .u16 (0 : Int), .int .u32 (0 : Int), .int .u16 (0 : Int), .int .u32 (0 : Int), .int .u64 (0 : Int), .slice none 0 0] 29)).cell? ⟨ad.block, ad.off + 2, none⟩ = some (.int .u8 (y2 : Int)) := (World.cell?_alloc_lt _ _ ⟨ad.block, ad.off + 2, none⟩ (Nat.lt_of_lt_of_le hbl hsz)).trans ((hb1.cell (p := ⟨ad.block, ad.off + 2, none⟩) hbl).trans c2)
          clear c0 c1 c2 cd
          have hx1 := hb1.alloc hb1.size (.cells #[.int .i64 (0 : Int), .int .u16 (0 : Int), .int .u32 (0 : Int), .int .u16 (0 : Int), .int .u32 (0 : Int), .int .u64 (0 : Int), .slice none 0 0] 29)
          have hs1 := hb1.size
          clear hb1 h6
          go_wp2_with fail
          refine (rsame6_any 0 0 0 0 0 0 none 0 0 [] 0 0 0 0 0 0 none 0 0 [] _ Bs.none_ Bs.none_ (by decide) (by decide)).mono ?_
          rintro e w2 ⟨rfl, hb2⟩
          rw [sameQ_self]
          have hx2 := hx1.trans (hb2.mono (by simp; omega))
          have hs2 := hx2.size
          clear hx1 hb2
          go_wp2_with fail
          refine (awake6_any _).mono ?_
          rintro e w' ⟨rfl, hb⟩
          have hbz := hx2.trans (hb.mono hs2)
          go_wp2
          go_ret
          exact ⟨rfl, hbz⟩
      · have hne : True := trivial
        have h6 := hal (by simp only [ne_eq, List.cons.injEq, not_and]; exact fun e => absurd e e0)
        clear hal
        have d0 : ((x0.toNat : Int) == 86) = false := by
          rw [beq_eq_false_iff_ne]
          intro e
          exact e0 (UInt8.toNat_inj.1 (show x0.toNat = (86 : UInt8).toNat from by simpa using (show x0.toNat = 86 by omega)))
        generalize x0.toNat = y0 at *
        generalize x1.toNat = y1 at *
        generalize x2.toNat = y2 at *
        go_enter Try.func7, Try.ntmps7
        go_wp2_with fail
        refine cd.mono ?_
        rintro e w1 h
        obtain ⟨hb1, rfl⟩ := decodeP_no h (by rw [h6]; decide)
        clear h
        rw [h6]
        have hsz := hb1.size
        have k0 : (w1.alloc (.cells #[.int .i64 (0 : Int), .int .u16 (0 : Int), .int .u32 (0 : Int), .int .u16 (0 : Int), .int .u32 (0 : Int), .int .u64 (0 : Int), .slice none 0 0] 29)).cell? ad = some (.int .u8 (y0 : Int)) := (World.cell?_alloc_lt _ _ ad (Nat.lt_of_lt_of_le hbl hsz)).trans ((hb1.cell (p := ad) hbl).trans c0)
        have k1 : (w1.alloc (.cells #[.int .i64 (0 : Int), .int .u16 (0 : Int), .int .u32 (0 : Int), .int .u16 (0 : Int), .int .u32 (0 : Int), .int .u64 (0 : Int), .slice none 0 0] 29)).cell? ⟨ad.block, ad.off + 1, none⟩ = some (.int .u8 (y1 : Int)) := (World.cell?_alloc_lt _ _ ⟨ad.block, ad.off + 1, none⟩ (Nat.lt_of_lt_of_le hbl hsz)).trans ((hb1.cell (p := ⟨ad.block, ad.off + 1, none⟩) hbl).trans c1)
        have k2 : (w1.alloc (.cells #[.int .i64 (0 : Int), .int .u16 (0 : Int), .int .u32 (0 : Int), .int .u16 (0 : Int), .int .u32 (0 : Int), .int .u64 (0 : Int), .slice none 0 0] 29)).cell? ⟨ad.block, ad.off + 2, none⟩ = some (.int .u8 (y2 : Int)) := (World.cell?_alloc_lt _ _ ⟨ad.block, ad.off + 2, none⟩ (Nat.lt_of_lt_of_le hbl hsz)).trans ((hb1.cell (p := ⟨ad.block, ad.off + 2, none⟩) hbl).trans c2)
        clear c0 c1 c2 cd
        have hx1 := hb1.alloc hb1.size (.cells #[.int .i64 (0 : Int), .int .u16 (0 : Int), .int .u32 (0 : Int), .int .u16 (0 : Int), .int .u32 (0 : Int), .int .u64 (0 : Int), .slice none 0 0] 29)
        have hs1 := hb1.size
        clear hb1 h6
        go_wp2_with fail
        refine (rsame6_any 0 0 0 0 0 0 none 0 0 [] 0 0 0 0 0 0 none 0 0 [] _ Bs.none_ Bs.none_ (by decide) (by decide)).mono ?_
        rintro e w2 ⟨rfl, hb2⟩
        rw [sameQ_self]
        have hx2 := hx1.trans (hb2.mono (by simp; omega))
        have hs2 := hx2.size
        clear hx1 hb2
        go_wp2_with fail
        refine (awake6_any _).mono ?_
        rintro e w' ⟨rfl, hb⟩
        have hbz := hx2.trans (hb.mono hs2)
        go_wp2
        go_ret
        exact ⟨rfl, hbz⟩

/-! ### THE ROW's STEP -/
set_option maxRecDepth 100000 in
theorem lifted (os : Os) (started : os.Started) (H : Type) (enc : TypeId × Value → H) :
    ReturnsInHanded {} Try.checked os 7 .any (Rows.frameAlienSpec.pre6 enc Try.prog Try.f7 Rows.frameAlienRow.domain false) (Rows.frameAlienSpec.post enc Try.prog Try.f7 false true false false) := by
  refine returnsInHanded_of_change (C := Try.checked) own started (by kernel_rfl) Try.func7
    (ChangeSpec.witness6 (enc := enc) (C := Try.checked) false ⟨#[], #[.slice none 0 0], []⟩ 8 (by kernel_rfl) (by kernel_rfl) (by kernel_rfl) (by kernel_rfl)) ?_
  intro W base args ds gs before hval0 hW hcnd _
  have hval : ∀ (j : Nat) t v, Try.f7.params[j]? = some t → args[j]? = some v → Value.okWide Try.prog W .any base t v := hval0
  have hW' := hW
  obtain ⟨p, q, hA0, hV, rfl, hfz, hnd⟩ := hW
  have hA : DataW.TrodAll enc Try.prog W 0 (fun _ => true) true Try.f7.params.toList args.toList ds p := hA0
  rw [Try.params7] at hA hval
  obtain ⟨v0, vs0, d0, ds0, p0, q0, hargs, rfl, rfl, h0, r0⟩ := trodAll_cons hA
  obtain ⟨rfl, rfl, rfl⟩ := trodAll_nil r0
  obtain rfl : args = #[v0] := by cases args; simp_all
  obtain ⟨rfl, rfl⟩ := trodVars_none hV
  have k0 := h0
  have lt0 : ∀ x ∈ p0, x.block < W.heap.size := by obtain ⟨m, hm⟩ := k0; exact DataW.trod_lt m _ _ _ hm
  obtain ⟨a0, len0, cap0, rfl⟩ := okWide_slice Try.underlying27 (hval 0 27 v0 rfl rfl)
  obtain ⟨z0, w0⟩ : ∃ zs, IsRow .u8 W a0 len0 cap0 zs := by
    obtain ⟨fuel, hf⟩ := h0
    rcases open_ints Try.underlying27 Try.underlying5 (by kernel_rfl) hf with ⟨hcs, _⟩ | ⟨x, l, c, zs, hcs, _, hl, hm, hz, _, hcell, hwz⟩
    · simp [Value.cells] at hcs
      obtain ⟨rfl, rfl, rfl⟩ := hcs
      exact ⟨[], .inl ⟨rfl, rfl, rfl, rfl⟩⟩
    · simp [Value.cells] at hcs
      obtain ⟨rfl, rfl, rfl⟩ := hcs
      exact ⟨zs, .inr ⟨_, rfl, hl, hm, by simpa using hz, hcell, hwz⟩⟩
  have b0 : ∀ x, a0 = some x → 0 < len0 → x.block < W.heap.size := isRow_block w0
  clear hA0 hval0
  refine (walk a0 len0 cap0 z0 W w0 b0).mono fun e W' ⟨he, bel⟩ => ?_
  subst he
  exact ⟨_, rfl, _, _, _, [], _, [], hW', trodAll_mk1 (shut_bool Try.underlying4 _), (trodAll_cons_mk (Below.trod laidOut (by kernel_rfl) (of_decide_eq_true (by kernel_rfl)) k0 bel lt0) trodAll_mk0), rfl, bel.frame _, fun h => by cases h⟩

theorem over : Rows.frameAlienRow.holds Try.pinned (OpenSpec.ofChange Rows.frameAlienSpec) :=
  OpenClaim.holds_of_wide 7 Try.f7 rfl rfl rfl rfl rfl rfl rfl ⟨rfl, rfl, rfl, rfl, rfl⟩ rfl rfl rfl rfl rfl (by kernel_rfl) Try.func7 (by kernel_rfl)
    (of_decide_eq_true (by kernel_rfl)) (by unfold Func.isWrapper; first | (rw [if_pos (by decide +kernel)]; kernel_rfl) | (rw [if_neg (by decide +kernel)]; exact ⟨rfl, rfl⟩))
    (fun os started H enc _ => lifted os started H enc)

theorem proved : Rows.FrameAlienSaid := over
#print axioms proved
end Go.Proofs.Ytkhkihobbfecoaa.frameAlien
