/-
  The law choraguslaw07.BodyLays answers true, and does not panic, for every argument that its row allows. Conditions: none but the row's own.
-/
import Derived.Test.YtgbfpolcefhemaaRows
import Derived.WalkKit
import Derived.ProofKit
import Derived.OpenShut
import Derived.ShutString
import Derived.ChangeOld
import Derived.Below
import Derived.Test.YtgbfpolcefhemaaOpen
import Derived.Test.YtgbfpolcefhemaaLay7
namespace Go.Proofs.Ytgbfpolcefhemaa.bodyLays
open Go.ChangeShapes Go.WideShapes Go.ChangeAt Go.RowKit
open Go.ChangeMaps (open_string shut_string)
set_option linter.unusedVariables false
set_option linter.unusedSimpArgs false

theorem flip_u8 (x : UInt8) : bits .xor .u8 (x.toNat : Int) 255 = ((x ^^^ 255).toNat : Int) := by
  rw [show (255 : Int) = ((255 : Nat) : Int) from rfl, u8_xor_nat _ _ x.toNat_lt (by decide), UInt8.toNat_xor]
  rfl
/-- What holds at the head of a round: the Writer holds what is wanted. -/
def InvL (w wr : World) (l : List Th) (j : Nat) (v : Value) : Prop :=
  ∃ A m c mg, v = .slice A m c ∧ OwnB wr w.heap.size (.slice A m c) m (thsF (l.take j)) ∧ WrAt wr w.heap.size w.heap.size mg (thsF (l.take j)) ∧ Apart (.slice A m c) w.heap.size mg ∧ Below w.heap.size w wr ∧ m ≤ 2000 * j
set_option maxRecDepth 100000 in
set_option maxHeartbeats 1000000 in
theorem walk (A : Option Addr) (n c : Nat) (l : List Th) (w : World) (h0 : Things0 w A n c l) :
    Calls Try.prog 3 #[.slice A n c] w fun e w' => e = .returned (.bool true) ∧ Below w.heap.size w w' := by
  have cg := great7_any A n c l w h0
  obtain ⟨hA, hnc, hcm, hin⟩ := h0
  unfold maxLen at hcm
  have hlen := hA.len
  have HL := hide hlen
  have HI := hide hin
  clear hlen hin
  go_enter Try.func3, Try.ntmps3
  go_wp2_with fail
  refine cg.mono ?_
  rintro e w' ⟨gb, rfl, hsm, rfl⟩
  have HS := hide hsm
  clear cg hsm
  cases gb
  · have hsm := HS.out rfl
    have HS2 := hide hsm
    clear hsm HS
    have hW := WrAt.new w w.heap.size (Nat.le_refl _)
    have hb1 : Below w.heap.size w (w.alloc (.cells #[.slice none 0 0] 28)) := (Below.refl _ _).alloc (Nat.le_refl _) _
    have H0 : InvL w (w.alloc (.cells #[.slice none 0 0] 28)) l 0 (.slice none 0 0) := ⟨none, 0, 0, none, rfl, OwnB.nil_ _ _, hW, (fun g hg => by cases hg), hb1, Nat.le_refl _⟩
    clear hW hb1
    go_wp2
    go_loopw [4, 5] (fun v i wr => ∃ j : Nat, j ≤ n ∧ j ≤ 60 ∧ i = .int .i64 j ∧ InvL w wr l j v) (fun _ i _ => n - (intOf i).toNat)
    case atStart => exact ⟨0, Nat.zero_le _, by decide, rfl, H0⟩
    case round =>
      obtain ⟨j, hj, hj60, rfl, A1, m, c1, mg, rfl, hO, hW, hap, hb, hm⟩ := hrel
      clear H0
      have hs := hb.size
      have hmlen := hO.len
      by_cases hlt : j < n ∧ j < 60
      · obtain ⟨hlt, hlt60⟩ := hlt
        have z2 : (j : Int) < (n : Int) := by omega
        have z3 : (j : Int) < 60 := by omega
        obtain ⟨ad, hl, rfl, hbl, hc⟩ := (hA.below hb).at_ thOk hlt
        have hstep := thsF_take hl
        obtain ⟨y, hy⟩ : ∃ y, y = l[j] := ⟨_, rfl⟩
        rw [← hy] at hc hstep
        obtain ⟨k0, k1, k2, k3, k4, k5, k6, k7, k8⟩ := th_at hc
        have hyl : y ∈ l := by rw [hy]; exact List.getElem_mem hl
        have hys : y.m ≤ 300 ∧ y.d ≤ 60 := HS2.out y (by rw [hy]; exact List.mem_take_iff_getElem.2 ⟨j, by omega, rfl⟩)
        obtain ⟨hy1, hy2⟩ := hys
        have hyI := (HI.out y hyl).below hb
        have hFl := thF_len hyI hy1 hy2
        have cl := lay7_any w.heap.size w.heap.size mg (thsF (l.take j)) y wr hW hs (by omega) hyI (by omega) (by omega)
        generalize thF y = F at *
        generalize thsF (l.take j) = L at *
        have HP := hide hstep
        have HM := hide hmlen
        clear hy hyl hc hstep hmlen
        go_wp2_with fail
        refine cl.mono ?_
        rintro e w2 ⟨A2, c2, mg2, rfl, hB2, hW2, ht2, hm2⟩
        have hO2 := hO.turn ht2 hap
        have hap2 := hap.mov hO hm2
        have hb2 := hb.trans (hW.turned ht2 hs)
        have hs2 := hb2.size
        clear k0 k1 k2 k3 k4 k5 k6 k7 k8 cl hO hW hap hb hm2 ht2
        go_wp2_with (at_builtin; refine wp_bytes_mov _ rfl (.tmp 23) (.tmp 29) rfl w.heap.size m _ L rfl hO2 _ A2 F.length c2 F rfl hB2 (by omega) hs2 ?_)
        intro A3 c3 w3 hO3 hg3 hm3
        have hW3 := hW2.grown hg3 hap2
        have hap3 := apart_grown hap2 hm3 hW2
        have hb3 := hb2.grown hg3 hs2 (fun g hg => (hO2.lt g hg).1)
        have hs3 := hb3.size
        clear hO2 hW2 hap2 hb2 hg3 hm3 hB2
        have hcap3 := hO3.cap
        have hlen3 := hO3.len
        have cd := wdone_any w.heap.size w.heap.size mg2 (L ++ F) w3 hW3 (by omega)
        obtain ⟨q, hq⟩ : ∃ q, q = m + F.length := ⟨_, rfl⟩
        have hqj : q ≤ 2000 * (j + 1) := by omega
        unfold MakesB at cd
        rw [hlen3, ← hq] at cd
        rw [← hq] at hO3 hap3
        generalize L ++ F = M at *
        have HQ := hide hq
        have HL3 := hide hlen3
        clear hq hlen3
        go_wp2_with fail
        refine cd.mono ?_
        rintro e w4 ⟨A4, c4, rfl, hO4, hb4⟩
        have hW4 := hW3.later hb4
        have hO34 := hO3.later hb4
        have hb34 := hb3.trans (hb4.mono hs3)
        rw [← HQ.out]
        go_wp2_with fail
        refine (same_eq A4 A3 q q c4 c3 M M _ _ w4 hO4.bs hO34.bs (by unfold maxLen; omega) rfl).mono ?_
        rintro e w5 ⟨rfl, hd⟩
        have hd5 := drawn_below hd (B := w3.heap.size)
        have hd6 := drawn_below hd (B := w4.heap.size)
        have hs4 := hb4.size
        have hO5 : OwnB w5 w3.heap.size (.slice A4 q c4) q M := hO4.later hd6
        clear cd hd hO4 hW4 hO34 hd6 hb34
        have hb5 : Below w3.heap.size w3 w5 := hb4.trans hd5
        clear hb4 hd5
        go_wp2
        go_loopw [7] (fun i wx => ∃ (k : Nat) (N : List UInt8), k ≤ q ∧ i = .int .i64 k ∧ OwnB wx w3.heap.size (.slice A4 q c4) q N ∧ Below w3.heap.size w3 wx) (fun i _ => q - (intOf i).toNat)
        case atStart => exact ⟨0, M, Nat.zero_le _, rfl, hO5, hb5⟩
        case round =>
          obtain ⟨k, N, hk, rfl, hOx, hbx⟩ := hrel
          clear hO5 hb5
          by_cases hkq : k < q
          · have z4 : (k : Int) < (q : Int) := by omega
            obtain ⟨g, rfl, hg1, hg2⟩ := hOx.block (by omega)
            have hN : k < N.length := by rw [hOx.len]; exact hkq
            have kc := hOx.cell hkq hN
            have kz := hOx.frozen k
            have hx := flip_u8 N[k]
            have hset := hOx.set_ k (N[k] ^^^ 255)
            have hbs := hbx.setCell (p := ⟨g, k, none⟩) hg1 (byteV (N[k] ^^^ 255))
            unfold byteV at kc hset hbs
            have hu := N[k].toNat_lt
            generalize ((N[k] ^^^ 255).toNat : Int) = u at *
            generalize N.set k (N[k] ^^^ 255) = N' at *
            generalize (N[k]).toNat = t at *
            clear hOx hbx
            go_wp2
            go_roundw
            case rel => exact ⟨k + 1, N', by omega, by go_num, hset, hbs⟩
            case measure => simp [intOf]; omega
          · have hO6 := hO3.below hbx (fun g hg => (hO3.lt g hg).2)
            have hW6 := hW3.below hbx hW3.lt (fun g hg => (hW3.mlt g hg).2.1)
            have hb6 := hb3.trans (hbx.mono hs3)
            have hR : InvL w wr l (j + 1) (.slice A3 q c3) := ⟨A3, q, c3, mg2, rfl, by rw [HP.out]; exact hO6, by rw [HP.out]; exact hW6, hap3, hb6, hqj⟩
            have HR := hide hR
            clear hO6 hW6 hb6 hO3 hW3 hap3 hb3 hOx hbx hR
            go_wp2
            go_roundw
            case rel => exact ⟨j + 1, by omega, by omega, by go_num, HR.out⟩
            case measure => simp [intOf]; omega
      · have cd := wdone_any w.heap.size w.heap.size mg (thsF (l.take j)) wr hW (by omega)
        unfold MakesB at cd
        rw [hmlen] at cd
        generalize thsF (l.take j) = L at *
        have HM := hide hmlen
        clear hmlen
        have z2 : j < n → ¬ (j : Int) < 60 := by omega
        by_cases hjn : j < n
        · have z1 : (j : Int) < (n : Int) := by omega
          have z3 := z2 hjn
          clear z2 hlt
          go_wp2_with fail
          refine cd.mono ?_
          rintro e w4 ⟨A4, c4, rfl, hO4, hb4⟩
          have hO34 := hO.later hb4
          have hb34 := hb.trans (hb4.mono hs)
          clear cd hO hW hap hb hb4
          go_wp2_with fail
          refine (same_eq A4 A1 m m c4 c1 L L _ _ w4 hO4.bs hO34.bs (by unfold maxLen; omega) rfl).mono ?_
          rintro e w5 ⟨rfl, hd⟩
          have hb5 := hb34.trans (drawn_below hd)
          clear hd hO4 hO34 hb34
          go_wp2_with fail
          refine (awake7_any _).mono ?_
          rintro e w6 ⟨rfl, hb6⟩
          have hbz := hb5.trans (hb6.mono hb5.size)
          go_wp2
          go_ret
          exact ⟨rfl, hbz⟩
        · have z1 : ¬ (j : Int) < (n : Int) := by omega
          clear z2 hlt
          go_wp2_with fail
          refine cd.mono ?_
          rintro e w4 ⟨A4, c4, rfl, hO4, hb4⟩
          have hO34 := hO.later hb4
          have hb34 := hb.trans (hb4.mono hs)
          clear cd hO hW hap hb hb4
          go_wp2_with fail
          refine (same_eq A4 A1 m m c4 c1 L L _ _ w4 hO4.bs hO34.bs (by unfold maxLen; omega) rfl).mono ?_
          rintro e w5 ⟨rfl, hd⟩
          have hb5 := hb34.trans (drawn_below hd)
          clear hd hO4 hO34 hb34
          go_wp2_with fail
          refine (awake7_any _).mono ?_
          rintro e w6 ⟨rfl, hb6⟩
          have hbz := hb5.trans (hb6.mono hb5.size)
          go_wp2
          go_ret
          exact ⟨rfl, hbz⟩
  · clear HS
    go_wp2_with fail
    refine (awake7_any _).mono ?_
    rintro e w' ⟨rfl, hb⟩
    go_wp2
    go_ret
    exact ⟨rfl, hb⟩

/-! ### THE ROW's STEP -/
set_option maxRecDepth 100000 in
theorem lifted (os : Os) (started : os.Started) (H : Type) (enc : TypeId × Value → H) :
    ReturnsInHanded {} Try.checked os 3 .any (Rows.bodyLaysSpec.pre6 enc Try.prog Try.f3 Rows.bodyLaysRow.domain false) (Rows.bodyLaysSpec.post enc Try.prog Try.f3 false true false false) := by
  refine returnsInHanded_of_change (C := Try.checked) own started (by kernel_rfl) Try.func3
    (ChangeSpec.witness6 (enc := enc) (C := Try.checked) false ⟨#[], #[.slice none 0 0], []⟩ 8 (by kernel_rfl) (by kernel_rfl) (by kernel_rfl) (by kernel_rfl)) ?_
  intro W base args ds gs before hval0 hW hcnd _
  have hval : ∀ (j : Nat) t v, Try.f3.params[j]? = some t → args[j]? = some v → Value.okWide Try.prog W .any base t v := hval0
  have hW' := hW
  obtain ⟨p, q, hA0, hV, rfl, hfz, hnd⟩ := hW
  have hA : DataW.TrodAll enc Try.prog W 0 (fun _ => true) true Try.f3.params.toList args.toList ds p := hA0
  rw [Try.params3] at hA hval
  obtain ⟨v0, vs0, d0, ds0, p0, q0, hargs, rfl, rfl, h0, r0⟩ := trodAll_cons hA
  obtain ⟨rfl, rfl, rfl⟩ := trodAll_nil r0
  obtain rfl : args = #[v0] := by cases args; simp_all
  obtain ⟨rfl, rfl⟩ := trodVars_none hV
  have k0 := h0
  have lt0 : ∀ x ∈ p0, x.block < W.heap.size := by obtain ⟨m, hm⟩ := k0; exact DataW.trod_lt m _ _ _ hm
  obtain ⟨a0, len0, cap0, rfl⟩ := okWide_slice Try.underlying22 (hval 0 22 v0 rfl rfl)
  obtain ⟨z0, w0⟩ : ∃ l, Things0 W a0 len0 cap0 l := by
    obtain ⟨fuel, hf⟩ := h0
    exact things_row (open_things hf) rfl
  clear hA0 hval0
  refine (walk a0 len0 cap0 z0 W w0).mono fun e W' ⟨he, bel⟩ => ?_
  subst he
  exact ⟨_, rfl, _, _, _, [], _, [], hW', trodAll_mk1 (shut_bool Try.underlying4 _), (trodAll_cons_mk (Below.trod laidOut (by kernel_rfl) (of_decide_eq_true (by kernel_rfl)) k0 bel lt0) trodAll_mk0), rfl, bel.frame _, fun h => by cases h⟩

theorem over : Rows.bodyLaysRow.holds Try.pinned (OpenSpec.ofChange Rows.bodyLaysSpec) :=
  OpenClaim.holds_of_wide 3 Try.f3 rfl rfl rfl rfl rfl rfl rfl ⟨rfl, rfl, rfl, rfl, rfl⟩ rfl rfl rfl rfl rfl (by kernel_rfl) Try.func3 (by kernel_rfl)
    (of_decide_eq_true (by kernel_rfl)) (by unfold Func.isWrapper; first | (rw [if_pos (by decide +kernel)]; kernel_rfl) | (rw [if_neg (by decide +kernel)]; exact ⟨rfl, rfl⟩))
    (fun os started H enc _ => lifted os started H enc)

theorem proved : Rows.BodyLaysSaid := over
#print axioms proved
end Go.Proofs.Ytgbfpolcefhemaa.bodyLays
