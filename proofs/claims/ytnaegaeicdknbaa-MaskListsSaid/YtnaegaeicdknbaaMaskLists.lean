/-
  The law choraguslaw05.MaskLists answers true, and does not panic, for every argument that its row allows. Conditions: none but the row's own.
-/
import Derived.Test.YtnaegaeicdknbaaRows
import Derived.WalkKit
import Derived.ProofKit
import Derived.OpenShut
import Derived.ShutString
import Derived.ChangeOld
import Derived.Below
import Derived.Test.YtnaegaeicdknbaaOpen
import Derived.Test.YtnaegaeicdknbaaOpenM
import Derived.Test.YtnaegaeicdknbaaMask5
import Derived.Test.YtnaegaeicdknbaaMaskF
import Derived.Test.YtnaegaeicdknbaaMask8
namespace Go.Proofs.Ytnaegaeicdknbaa.maskLists
open Go.ChangeShapes Go.WideShapes Go.ChangeAt Go.RowKit
open Go.ChangeMaps (open_string shut_string)
set_option linter.unusedVariables false
set_option linter.unusedSimpArgs false

theorem ofP_yes {l : List Int} {k r : Nat} (hk : k < l.length) (e : l[k] = (r : Int)) (j : Nat) : (if j = r then true else ofP (l.take k) j) = ofP (l.take (k + 1)) j := by
  rw [List.take_succ_eq_append_getElem hk, e]
  unfold ofP
  have e2 : ((j : Int) = (r : Int)) ↔ j = r := by omega
  by_cases h : j = r
  · subst h; simp
  · rw [if_neg h]
    apply decide_eq_decide.2
    simp only [List.mem_append, List.mem_singleton, e2, h, or_false]
theorem ofP_no {l : List Int} {k : Nat} (hk : k < l.length) (hr : ¬ (0 ≤ l[k] ∧ l[k] < 128)) (j : Nat) (hj : j < 128) : ofP (l.take k) j = ofP (l.take (k + 1)) j := by
  rw [List.take_succ_eq_append_getElem hk]
  unfold ofP
  apply decide_eq_decide.2
  simp only [List.mem_append, List.mem_singleton]
  constructor
  · exact Or.inl
  · rintro (h | e)
    · exact h
    · exfalso
      rw [← e] at hr
      omega
set_option maxRecDepth 100000 in
theorem walk (A : Option Addr) (n c : Nat) (zs : List Int) (a b : Nat) (w : World) (w0 : IsRow .i64 w A n c zs) (_b0 : ∀ x, A = some x → 0 < n → x.block < w.heap.size) (ha : a < 18446744073709551616) (hb : b < 18446744073709551616) :
    Calls Try.prog 4 #[.slice A n c, .agg #[.int .u64 (a : Int), .int .u64 (b : Int)]] w fun e w' => e = .returned (.bool true) ∧ Below w.heap.size w w' := by
  obtain ⟨l, hA, hnc, hcm⟩ := isRow_ints w0
  clear w0 _b0
  unfold maxLen at hcm
  by_cases h3 : 300 < n
  · have hbw : Below w.heap.size w (w.alloc (.cells #[.int .u64 (a : Int), .int .u64 (b : Int)] 24)) := (Below.refl _ _).alloc (Nat.le_refl _) _
    go_enter Try.func4, Try.ntmps4
    go_wp2_with fail
    refine (awake5_any _).mono ?_
    rintro e w' ⟨rfl, hb⟩
    go_wp2
    go_ret
    exact ⟨rfl, hbw.trans (hb.mono hbw.size)⟩
  · have hn3 : n ≤ 300 := by omega
    have hlen := hA.len
    have HL := hide hlen
    clear hlen
    obtain ⟨w2, hw2⟩ : ∃ w2, w2 = (w.alloc (.cells #[.int .u64 (a : Int), .int .u64 (b : Int)] 24)).alloc (.cells (flagsA fun _ => false) 26) := ⟨_, rfl⟩
    have m0 : MAt w2 w.heap.size a b := by rw [hw2]; exact (MAt.mk_ w a b).alloc _
    have m1 : FAt w2 (w.heap.size + 1) (ofP (l.take 0)) := by
      rw [hw2]
      have := FAt.mk_ (w.alloc (.cells #[.int .u64 (a : Int), .int .u64 (b : Int)] 24)) (fun _ => false)
      rw [World.size_alloc] at this
      exact this.congr fun i _ => by simp [ofP]
    have hb0 : Below w.heap.size w w2 := by rw [hw2]; exact ((Below.refl _ _).alloc (Nat.le_refl _) _).alloc (by simp) _
    have hz := zeroFlags
    generalize hz0 : flagsA (fun _ => false) = z0 at hz hw2
    go_enter Try.func4, Try.ntmps4
    go_wp2
    rw [← hw2]
    clear hw2 hz hz0
    go_loopw [6] (fun i wr => ∃ k : Nat, k ≤ n ∧ i = .int .i64 k ∧ MAt wr w.heap.size a b ∧ FAt wr (w.heap.size + 1) (ofP (l.take k)) ∧ Below w.heap.size w wr) (fun i _ => n - (intOf i).toNat)
    case atStart => exact ⟨0, Nat.zero_le _, rfl, m0, m1, hb0⟩
    case round =>
      obtain ⟨k, hk, rfl, q0, q1, hb1⟩ := hrel
      clear m0 m1 hb0
      by_cases hlt : k < n
      · have hAr := hA.below hb1
        obtain ⟨ad, hl, rfl, hbl, hc⟩ := hAr.at_ inOk hlt
        have hyes := fun (r : Nat) (e : l[k] = (r : Int)) => ofP_yes hl e
        have hno := fun hr => ofP_no (k := k) hl hr
        obtain ⟨x, hx⟩ : ∃ x, x = l[k] := ⟨_, rfl⟩
        rw [← hx] at hc hyes hno
        have hc' := in_at hc
        clear hx hc hAr
        by_cases hr : 0 ≤ x ∧ x < 128
        · obtain ⟨r, rfl⟩ := Int.eq_ofNat_of_zero_le hr.1
          have hr' : r < 128 := by omega
          have d0 := q1.cell hr'
          have d1 := q1.fz r
          have s0 : MAt (wr.setCell ⟨w.heap.size + 1, r, none⟩ (.bool true)) w.heap.size a b := q0.other _ (by simp)
          have s1 : FAt (wr.setCell ⟨w.heap.size + 1, r, none⟩ (.bool true)) (w.heap.size + 1) (ofP (l.take (k + 1))) := (q1.set_ hr' true).congr fun i _ => hyes r rfl i
          have s2 : Below w.heap.size w (wr.setCell ⟨w.heap.size + 1, r, none⟩ (.bool true)) := hb1.setCell (by simp) _
          have hd1 : decide ((0 : Int) ≤ (r : Int)) = true := decide_eq_true (by omega)
          have hd2 : decide ((r : Int) < 128) = true := decide_eq_true (by omega)
          have S := hide (And.intro s0 (And.intro s1 s2))
          clear s0 s1 s2 q0 q1 hb1 hyes hno hr
          go_wp2
          go_roundw
          case rel => exact ⟨k + 1, by omega, by go_num, S.out.1, S.out.2.1, S.out.2.2⟩
          case measure => simp [intOf]; omega
        · have hst := hno hr
          have s1 : FAt wr (w.heap.size + 1) (ofP (l.take (k + 1))) := q1.congr fun i hi => hst i hi
          have S := hide (And.intro q0 (And.intro s1 hb1))
          clear s1 q0 q1 hb1 hyes hno hst
          by_cases h0 : 0 ≤ x
          · have hd1 : decide ((0 : Int) ≤ x) = true := decide_eq_true h0
            have hd2 : decide (x < 128) = false := decide_eq_false (by omega)
            clear hr
            go_wp2
            go_roundw
            case rel => exact ⟨k + 1, by omega, by go_num, S.out.1, S.out.2.1, S.out.2.2⟩
            case measure => simp [intOf]; omega
          · have hd1 : decide ((0 : Int) ≤ x) = false := decide_eq_false h0
            clear hr
            go_wp2
            go_roundw
            case rel => exact ⟨k + 1, by omega, by go_num, S.out.1, S.out.2.1, S.out.2.2⟩
            case measure => simp [intOf]; omega
      · obtain rfl : k = n := by omega
        have q1' : FAt wr (w.heap.size + 1) (ofP l) := by
          rw [List.take_of_length_le (by rw [HL.out]; omega)] at q1
          exact q1
        have Q := hide (And.intro q0 (And.intro q1' hb1))
        have hb1' := hb1
        clear q0 q1 q1' hb1
        have hA9 : Es inC wr wr.heap.size A k l := (hA.below hb1').more hb1'.size
        have hM1 := mask_self (loM (ofP l)) (hiM (ofP l)) (loM_lt _) (hiM_lt _)
        have c1 := fun W (hb' : Below wr.heap.size wr W) => of_any A k c l wr.heap.size W (hA9.below hb') hb'.size (by omega)
        have c2 := fun W => rof_any (ofP l) W
        have c3 := fun W => count_any a b W ha hb
        have c4 := fun W => rcount_any a b W ha hb
        have hne : ((popM a b : Int) != (popM a b : Int)) = false := by simp
        generalize loM (ofP l) = X1 at *
        generalize hiM (ofP l) = X2 at *
        clear hA9 hb1'
        go_wp2_with fail
        have g0 := Later.cell Q.out.1.c0
        have g1 := Later.cell Q.out.1.c1
        refine wp_region_calm (by kernel_rfl) (by kernel_rfl) ?_
        have k1 := fun x : Later wr => calm_of (c1 x.w x.below)
        have k2 := fun x : Later wr => calm_of (c2 x.w)
        have k3 := fun x : Later wr => calm_of (c3 x.w)
        have k4 := fun x : Later wr => calm_of (c4 x.w)
        have RR := hide (later_row Q.out.2.1)
        clear c1 c2 c3
        repeat (first | (go_big_quiet_want; refine quiet_row 26 (.tmp 5) (w.heap.size + 1) _ rfl rfl RR.out Try.underlying26 rfl (sizeFlags _) ?_; (try simp only [Act.put, List.setIfInBounds_toArray, List.set_cons_succ, List.set_cons_zero]); go_big_quiet_on) | go_big_quiet_step (first | (go_at_call 16; with_reducible exact k1 _) | (go_at_call 13; with_reducible exact k2 _) | (go_at_call 17; with_reducible exact k3 _) | (go_at_call 18; with_reducible exact k4 _)))
        refine wpQuiet_nil ?_
        rintro _ ⟨x9, rfl⟩
        have hb9 := x9.below
        generalize x9.w = w9 at hb9 ⊢
        have m9 := Q.out.1.later hb9
        have b9 := Q.out.2.2.trans (hb9.mono Q.out.2.2.size)
        have cr := ranks_any a b w9 ha hb
        have hpm := popM_le a b
        have hrk := rk_is a b
        have hback := mask_of (p := ofP (rkTo a b 128)) ha hb (fun i hi => (rk_ofP a b i hi).symm)
        have hM2 := mask_self a b ha hb
        have cz := fun A' c' B W (h : Es inC W B A' (popM a b) (rkTo a b 128)) (hB : B ≤ W.heap.size) => of_any A' (popM a b) c' (rkTo a b 128) B W h hB (by omega)
        rw [hback.1, hback.2] at cz
        clear hback
        have hlenR := hrk.len
        have HK := hide hrk
        clear hrk
        generalize rkTo a b 128 = R at cr cz HK hlenR
        have HR := hide hlenR
        clear hlenR
        obtain ⟨q, hq⟩ : ∃ q, q = popM a b := ⟨_, rfl⟩
        rw [← hq] at cr cz hpm c4
        have HQ := hide hq
        clear hq k3 k4 hne
        clear Q RR g0 g1 k1 k2 hb9
        have d0 := m9.c0
        have d1 := m9.c1
        go_wp2_with fail
        refine cr.mono ?_
        rintro e w5 ⟨A', c', rfl, hown, hb5⟩
        have m5 := m9.later hb5
        have hes := OwnE.es inOk hown
        have b5 := b9.trans (hb5.mono b9.size)
        have hcp := OwnE.cap hown
        clear cr m9 b9 hb5 hown d0 d1
        unfold maxLen at hcp
        go_wp2_with fail
        go_loopw [8] (fun i wr => ∃ j : Nat, j ≤ q ∧ i = .int .i64 j ∧ Below w5.heap.size w5 wr) (fun i _ => q - (intOf i).toNat)
        case atStart => exact ⟨0, Nat.zero_le _, rfl, Below.refl _ _⟩
        case round =>
          obtain ⟨j, hj, rfl, hbj⟩ := hrel
          have m6 := m5.later hbj
          have hes6 := hes.below hbj
          have b6 := b5.trans (hbj.mono b5.size)
          by_cases hltj : j < q
          · obtain ⟨ad, hl, rfl, hbl, hc⟩ := hes6.at_ inOk hltj
            have hc' := in_at hc
            obtain ⟨r, hr, hr128, hbit⟩ := HK.out.at_ j _ (List.getElem?_eq_getElem hl)
            rw [hr] at hc'
            have cs := fun W => rset_any a b r W ha hb hr128
            rw [hbit] at cs
            have g0 := Later.cell m6.c0
            have g1 := Later.cell m6.c1
            have g2 := Later.cellAt hc'
            have HBJ := hide hbj
            by_cases hj0 : j = 0
            · subst hj0
              have hd1 : decide ((0 : Int) < 0) = false := by decide
              have hc9 : wr.cell? ad = some (.int .i64 (r : Int)) := by simpa [Addr.add] using hc'
              have g3 := Later.cellAt hc9
              clear g2 hc'
              have g2 := g3
              clear hc hr hbit m5 m6 hes hes6 b5 b6 hbj
              go_wp2_with fail
              refine wp_region_calm (by kernel_rfl) (by kernel_rfl) ?_
              have k1 := fun x : Later wr => calm_of (cs x.w)
              clear cs
              repeat (go_big_quiet_step ((go_at_call 11; with_reducible exact k1 _)))
              refine wpQuiet_nil ?_
              rintro _ ⟨x9, rfl⟩
              have hb9 := x9.below
              generalize x9.w = w9 at hb9 ⊢
              have hbz := HBJ.out.trans (hb9.mono HBJ.out.size)
              clear g0 g1 g2 k1 hb9
              go_wp2_with fail
              go_roundw
              case rel => exact ⟨1, by omega, by go_num, hbz⟩
              case measure => simp [intOf]; omega
            · obtain ⟨m, hm⟩ : ∃ m, m + 1 = j := ⟨j - 1, by omega⟩
              obtain ⟨ad', hl0, e0, _, hc0⟩ := hes6.at_ (j := m) inOk (by omega)
              obtain rfl : ad = ad' := by injection e0
              have hc0' := in_at hc0
              obtain ⟨r0, hr0, _, _⟩ := HK.out.at_ m _ (List.getElem?_eq_getElem hl0)
              have hrr := HK.out.lt m _ _ (List.getElem?_eq_getElem hl0) (by rw [hm]; exact List.getElem?_eq_getElem hl)
              rw [hr0, hr] at hrr
              rw [hr0] at hc0'
              have hrr' : r0 < r := by omega
              have g3 := Later.cellAt hc0'
              have hd1 : decide ((0 : Int) < (j : Int)) = true := decide_eq_true (by omega)
              have hd2 : decide ((r : Int) ≤ (r0 : Int)) = false := decide_eq_false (by omega)
              have hd3 : decide (0 < j) = true := decide_eq_true (by omega)
              have hd4 : decide (r ≤ r0) = false := decide_eq_false (by omega)
              have hj1 : (j : Int) - 1 = (m : Int) := by omega
              have hm1 : (m : Int) < (q : Int) := by omega
              clear hc hc0 hc0' hr hr0 hbit m5 m6 hes hes6 b5 b6 hbj hrr e0 hm
              go_wp2_with fail
              refine wp_region_calm (by kernel_rfl) (by kernel_rfl) ?_
              have k1 := fun x : Later wr => calm_of (cs x.w)
              clear cs
              repeat (go_big_quiet_step ((go_at_call 11; with_reducible exact k1 _)))
              refine wpQuiet_nil ?_
              rintro _ ⟨x9, rfl⟩
              have hb9 := x9.below
              generalize x9.w = w9 at hb9 ⊢
              have hbz := HBJ.out.trans (hb9.mono HBJ.out.size)
              clear g0 g1 g2 g3 k1 hb9 hd1 hd2 hd3 hd4
              go_wp2_with fail
              go_roundw
              case rel => exact ⟨j + 1, by omega, by go_num, hbz⟩
              case measure => simp [intOf]; omega
          · obtain rfl : j = q := by omega
            have ca := fun W c0 (hb' : Below wr.heap.size wr W) => cz A' c0 w5.heap.size W (hes6.below (hb'.mono hbj.size)) (Nat.le_trans hbj.size hb'.size)
            have g0 := Later.cell m6.c0
            have g1 := Later.cell m6.c1
            have heq : ((j : Int) == (j : Int)) = true := by simp
            have HB6 := hide b6
            clear m5 m6 hes hes6 b5 b6 hbj cz
            go_wp2_with fail
            refine wp_region_calm (by kernel_rfl) (by kernel_rfl) ?_
            have k1 := fun x : Later wr => calm_of (ca x.w c' x.below)
            have k2 := fun x : Later wr => calm_of (c4 x.w)
            have k3 := fun x : Later wr => calm_of (awake5_any x.w)
            clear ca c4
            repeat (go_big_quiet_step (first | (go_at_call 16; with_reducible exact k1 _) | (go_at_call 18; with_reducible exact k2 _) | (go_at_call 15; with_reducible exact k3 _)))
            refine wpQuiet_nil ?_
            rintro _ ⟨x9, rfl⟩
            have hb9 := x9.below
            generalize x9.w = w9 at hb9 ⊢
            have hbz := HB6.out.trans (hb9.mono HB6.out.size)
            go_wp2
            go_ret
            exact ⟨rfl, hbz⟩

/-! ### THE ROW's STEP -/
set_option maxRecDepth 100000 in
theorem lifted (os : Os) (started : os.Started) (H : Type) (enc : TypeId × Value → H) :
    ReturnsInHanded {} Try.checked os 4 .any (Rows.maskListsSpec.pre6 enc Try.prog Try.f4 Rows.maskListsRow.domain false) (Rows.maskListsSpec.post enc Try.prog Try.f4 false true false false) := by
  refine returnsInHanded_of_change (C := Try.checked) own started (by kernel_rfl) Try.func4
    (ChangeSpec.witness6 (enc := enc) (C := Try.checked) false ⟨#[], #[.slice none 0 0, .agg #[.int .u64 0, .int .u64 0]], []⟩ 8 (by kernel_rfl) (by kernel_rfl) (by kernel_rfl) (by kernel_rfl)) ?_
  intro W base args ds gs before hval0 hW hcnd _
  have hval : ∀ (j : Nat) t v, Try.f4.params[j]? = some t → args[j]? = some v → Value.okWide Try.prog W .any base t v := hval0
  have hW' := hW
  obtain ⟨p, q, hA0, hV, rfl, hfz, hnd⟩ := hW
  have hA : DataW.TrodAll enc Try.prog W 0 (fun _ => true) true Try.f4.params.toList args.toList ds p := hA0
  rw [Try.params4] at hA hval
  obtain ⟨v0, vs0, d0, ds0, p0, q0, hargs, rfl, rfl, h0, r0⟩ := trodAll_cons hA
  obtain ⟨v1, vs1, d1, ds1, p1, q1, rfl, rfl, rfl, h1, r1⟩ := trodAll_cons r0
  obtain ⟨rfl, rfl, rfl⟩ := trodAll_nil r1
  obtain rfl : args = #[v0, v1] := by cases args; simp_all
  obtain ⟨rfl, rfl⟩ := trodVars_none hV
  have k0 := h0
  have lt0 : ∀ x ∈ p0, x.block < W.heap.size := by obtain ⟨m, hm⟩ := k0; exact DataW.trod_lt m _ _ _ hm
  obtain ⟨a0, len0, cap0, rfl⟩ := okWide_slice Try.underlying33 (hval 0 33 v0 rfl rfl)
  obtain ⟨z0, w0⟩ : ∃ zs, IsRow .i64 W a0 len0 cap0 zs := by
    obtain ⟨fuel, hf⟩ := h0
    rcases open_ints Try.underlying33 Try.underlying3 (by kernel_rfl) hf with ⟨hcs, _⟩ | ⟨x, l, c, zs, hcs, _, hl, hm, hz, _, hcell, hwz⟩
    · simp [Value.cells] at hcs
      obtain ⟨rfl, rfl, rfl⟩ := hcs
      exact ⟨[], .inl ⟨rfl, rfl, rfl, rfl⟩⟩
    · simp [Value.cells] at hcs
      obtain ⟨rfl, rfl, rfl⟩ := hcs
      exact ⟨zs, .inr ⟨_, rfl, hl, hm, by simpa using hz, hcell, hwz⟩⟩
  have b0 : ∀ x, a0 = some x → 0 < len0 → x.block < W.heap.size := isRow_block w0
  have k1 := h1
  have lt1 : ∀ x ∈ p1, x.block < W.heap.size := by obtain ⟨m, hm⟩ := k1; exact DataW.trod_lt m _ _ _ hm
  obtain ⟨x1, y1, rfl, hx1, hy1⟩ := open_mask (hval 1 24 v1 rfl rfl) h1
  clear hA0 hval0
  refine (walk a0 len0 cap0 z0 x1 y1 W w0 b0 hx1 hy1).mono fun e W' ⟨he, bel⟩ => ?_
  subst he
  exact ⟨_, rfl, _, _, _, [], _, [], hW', trodAll_mk1 (shut_bool Try.underlying4 _), (trodAll_cons_mk (Below.trod laidOut (by kernel_rfl) (of_decide_eq_true (by kernel_rfl)) k0 bel lt0) (trodAll_cons_mk (Below.trod laidOut (by kernel_rfl) (of_decide_eq_true (by kernel_rfl)) k1 bel lt1) trodAll_mk0)), rfl, bel.frame _, fun h => by cases h⟩

theorem over : Rows.maskListsRow.holds Try.pinned (OpenSpec.ofChange Rows.maskListsSpec) :=
  OpenClaim.holds_of_wide 4 Try.f4 rfl rfl rfl rfl rfl rfl rfl ⟨rfl, rfl, rfl, rfl, rfl⟩ rfl rfl rfl rfl rfl (by kernel_rfl) Try.func4 (by kernel_rfl)
    (of_decide_eq_true (by kernel_rfl)) (by unfold Func.isWrapper; first | (rw [if_pos (by decide +kernel)]; kernel_rfl) | (rw [if_neg (by decide +kernel)]; exact ⟨rfl, rfl⟩))
    (fun os started H enc _ => lifted os started H enc)

theorem proved : Rows.MaskListsSaid := over
#print axioms proved
end Go.Proofs.Ytnaegaeicdknbaa.maskLists
