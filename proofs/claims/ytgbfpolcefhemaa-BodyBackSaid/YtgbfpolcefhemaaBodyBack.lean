/-
  The law choraguslaw07.BodyBack answers true, and does not panic, for every argument that its row allows. Conditions: none but the row's own.
-/
import Derived.Test.YtgbfpolcefhemaaRows
import Derived.WalkKit
import Derived.ProofKit
import Derived.OpenShut
import Derived.ShutString
import Derived.ChangeOld
import Derived.Below
import Derived.Test.YtgbfpolcefhemaaOpen
import Derived.Test.YtgbfpolcefhemaaLay7
import Derived.Test.YtgbfpolcefhemaaFront
namespace Go.Proofs.Ytgbfpolcefhemaa.bodyBack
open Go.ChangeShapes Go.WideShapes Go.ChangeAt Go.RowKit
open Go.ChangeMaps (open_string shut_string)
set_option linter.unusedVariables false
set_option linter.unusedSimpArgs false

theorem thsF_drop {l : List Th} {j : Nat} (h : j < l.length) : thsF (l.drop j) = thF l[j] ++ thsF (l.drop (j + 1)) := by
  unfold thsF
  rw [List.drop_eq_getElem_cons h, List.flatMap_cons]
theorem thsF_len {l : List Th} (h : ∀ x ∈ l, (thF x).length ≤ 2000) : (thsF l).length ≤ 2000 * l.length := by
  unfold thsF
  induction l with
  | nil => simp
  | cons x l ih =>
    rw [List.flatMap_cons, List.length_append, List.length_cons]
    have h1 := h x (by simp)
    have h2 := ih (fun y hy => h y (by simp [hy]))
    omega
/-- What holds at the head of a round in which is laid. -/
def InvW (w wr : World) (l : List Th) (j : Nat) : Prop := ∃ mg, WrAt wr w.heap.size w.heap.size mg (thsF (l.take j)) ∧ Below w.heap.size w wr ∧ (thsF (l.take j)).length ≤ 2000 * j
/-- What holds at the head of a round in which is read. -/
def InvR (w wr : World) (b : Nat) (h : List Th) (j : Nat) : Prop := RdAt wr b (thsF (h.drop j)) 0 ∧ Below w.heap.size w wr ∧ w.heap.size ≤ b
theorem InvR.end_ {w wr : World} {b : Nat} {h : List Th} {j : Nat} (hi : InvR w wr b h j) (hj : h.length ≤ j) : RdAt wr b [] 0 := by
  have := hi.1
  rw [List.drop_eq_nil_of_le hj] at this
  exact this

set_option maxRecDepth 100000 in
set_option maxHeartbeats 4000000 in
theorem walk (A : Option Addr) (n c : Nat) (l : List Th) (w : World) (h0 : Things0 w A n c l) :
    Calls Try.prog 4 #[.slice A n c] w fun e w' => e = .returned (.bool true) ∧ Below w.heap.size w w' := by
  have cg := great7_any A n c l w h0
  obtain ⟨hA, hnc, hcm, hin⟩ := h0
  unfold maxLen at hcm
  have hlen := hA.len
  have HL := hide hlen
  have HI := hide hin
  clear hlen hin
  go_enter Try.func4, Try.ntmps4
  go_wp2_with fail
  refine cg.mono ?_
  rintro e w' ⟨gb, rfl, hsm, rfl⟩
  have HS := hide hsm
  clear cg hsm
  cases gb
  · have hsm := HS.out rfl
    have HS2 := hide hsm
    clear hsm HS
    have hW := WrAt.new w w.heap.size (Nat.le_refl _)
    have hb1 : Below w.heap.size w (w.alloc (.cells #[.slice none 0 0] 28)) := (Below.refl _ _).alloc (Nat.le_refl _) _
    have H0 : InvW w (w.alloc (.cells #[.slice none 0 0] 28)) l 0 := ⟨none, hW, hb1, Nat.le_refl _⟩
    clear hW hb1
    go_wp2
    go_loopw [4] (fun i wr => ∃ j : Nat, j ≤ n ∧ j ≤ 60 ∧ i = .int .i64 j ∧ InvW w wr l j) (fun i _ => n - (intOf i).toNat)
    case atStart => exact ⟨0, Nat.zero_le _, by decide, rfl, H0⟩
    case round =>
      obtain ⟨j, hj, hj60, rfl, mg, hW, hb, hm⟩ := hrel
      clear H0
      have hs := hb.size
      by_cases hlt : j < n ∧ j < 60
      · obtain ⟨hlt, hlt60⟩ := hlt
        have z2 : (j : Int) < (n : Int) := by omega
        have z3 : (j : Int) < 60 := by omega
        obtain ⟨ad, hl, rfl, hbl, hc⟩ := (hA.below hb).at_ thOk hlt
        have hstep := thsF_take hl
        obtain ⟨y, hy⟩ : ∃ y, y = l[j] := ⟨_, rfl⟩
        rw [← hy] at hc hstep
        obtain ⟨k0, k1, k2, k3, k4, k5, k6, k7, k8⟩ := th_at hc
        have hyl : y ∈ l := by rw [hy]; exact List.getElem_mem hl
        have hys : y.m ≤ 300 ∧ y.d ≤ 60 := HS2.out y (by rw [hy]; exact List.mem_take_iff_getElem.2 ⟨j, by omega, rfl⟩)
        obtain ⟨hy1, hy2⟩ := hys
        have hyI := (HI.out y hyl).below hb
        have hFl := thF_len hyI hy1 hy2
        have cl := lay7_any w.heap.size w.heap.size mg (thsF (l.take j)) y wr hW hs (by omega) hyI (by omega) (by omega)
        generalize thF y = F at *
        generalize thsF (l.take j) = L at *
        have HP := hide hstep
        clear hy hyl hc hstep
        go_wp2_with fail
        refine cl.mono ?_
        rintro e w2 ⟨A2, c2, mg2, rfl, hB2, hW2, ht2, hm2⟩
        have hb2 := hb.trans (hW.turned ht2 hs)
        have hl2 : (L ++ F).length ≤ 2000 * (j + 1) := by rw [List.length_append]; omega
        have hIn : InvW w w2 l (j + 1) := ⟨mg2, by rw [HP.out]; exact hW2, hb2, by rw [HP.out]; exact hl2⟩
        have HI2 := Lib.hid hIn
        clear k0 k1 k2 k3 k4 k5 k6 k7 k8 cl hW hb hm2 ht2 hIn hW2 hb2 hB2 hl2
        go_wp2
        go_roundw
        case rel => exact ⟨j + 1, by omega, by omega, by go_num, HI2.out⟩
        case measure => simp [intOf]; omega
      · have e60 : l.take j = l.take 60 := by
          by_cases hjn : j < n
          · obtain rfl : j = 60 := by omega
            rfl
          · rw [List.take_of_length_le (by rw [HL.out]; omega), List.take_of_length_le (by rw [HL.out]; omega)]
        have hll : (l.take 60).length ≤ 60 := List.length_take_le _ _
        have hlm : (l.take 60).length = j := by rw [← e60, List.length_take, HL.out]; omega
        rw [e60] at hW hm
        have cd := wdone_any w.heap.size w.heap.size mg (thsF (l.take 60)) wr hW (by omega)
        have hsi : ∀ i (hi : i < (l.take 60).length), (l.take 60)[i]? = l[i]? := fun i hi => by rw [List.getElem?_take, if_pos (by omega)]
        obtain ⟨hs9, hhs⟩ : ∃ h, h = l.take 60 := ⟨_, rfl⟩
        rw [← hhs] at hll hlm cd hsi hm
        have hq : ∀ x ∈ hs9, (thF x).length ≤ 2000 := fun x hx => by
          rw [hhs] at hx
          have h1 := HS2.out x hx
          exact thF_len (HI.out x (List.mem_of_mem_take hx)) h1.1 h1.2
        have htl9 : ∀ i, (thsF (hs9.drop (i + 1))).length ≤ 10000000 := fun i => by
          have h1 := thsF_len (l := hs9.drop (i + 1)) (fun x hx => hq x (List.mem_of_mem_drop hx))
          rw [List.length_drop] at h1
          omega
        have HTL := hide htl9
        clear hq htl9
        have HHS := hide hhs
        have HSI := hide hsi
        have hjm : j = n ∨ j = 60 := by omega
        have HLM := hide hlm
        have HJM := hide hjm
        clear hjm
        have zz : j < n → ¬ (j : Int) < 60 := by omega
        clear hhs hsi e60 hW hlm hll
        by_cases hjn : j < n
        all_goals
          first
            | (have z3 := zz hjn; have z2 : (j : Int) < (n : Int) := by omega)
            | have z2 : ¬ (j : Int) < (n : Int) := by omega
          clear zz hlt
          go_wp2_with fail
          refine cd.mono ?_
          rintro e w4 ⟨A4, c4, rfl, hO4, hb4⟩
          have hb34 := hb.trans (hb4.mono hs)
          have hm4 : (thsF hs9).length ≤ 140737488355328 := by omega
          have hbs := hO4.bs
          clear cd hb hb4
          go_wp2_with fail
          refine (read_any A4 _ c4 (thsF hs9) _ w4 hbs (Nat.le_refl _) hm4).mono ?_
          rintro e w5 ⟨b, rfl, hbb, hR5, hb5⟩
          have hb45 := hb34.trans (hb5.mono hb34.size)
          have H1 : InvR w w5 b hs9 0 := ⟨hR5, hb45, Nat.le_trans hb34.size hbb⟩
          obtain ⟨w6, hw6⟩ : ∃ w6 : World, w6 = w5 := ⟨_, rfl⟩
          rw [← hw6] at H1 ⊢
          clear hO4 hb34 hb5 hR5 hbb hb45 hbs hm4 hw6
          go_wp2
          go_loopw [6] (fun i wr => ∃ j : Nat, j ≤ n ∧ j ≤ 60 ∧ i = .int .i64 j ∧ InvR w wr b hs9 j) (fun i _ => n - (intOf i).toNat)
          case atStart => exact ⟨0, Nat.zero_le _, by decide, rfl, H1⟩
          case round =>
            clear H1 z2 hjn
            try clear z3
            clear hm
            obtain ⟨i, hi, hi60, rfl, hIv⟩ := hrel
            obtain ⟨hR0, hb1, hb⟩ := id hIv
            have hs1 := hb1.size
            by_cases hlt : i < n ∧ i < 60
            · obtain ⟨hlt, hlt60⟩ := hlt
              have z2 : (i : Int) < (n : Int) := by omega
              have z3 : (i : Int) < 60 := by omega
              obtain ⟨ad, hl, rfl, hbl, hc⟩ := (hA.below hb1).at_ thOk hlt
              obtain ⟨y, hy⟩ : ∃ y, y = l[i] := ⟨_, rfl⟩
              rw [← hy] at hc
              have hih : i < hs9.length := by rw [HLM.out]; have := HJM.out; omega
              have hyh : hs9[i] = y := by
                have e := HSI.out i hih
                rw [List.getElem?_eq_getElem hih, List.getElem?_eq_getElem hl] at e
                injection e with e
                rw [e, hy]
              have hR := hR0
              rw [thsF_drop hih, hyh] at hR
              have hys : y.m ≤ 300 ∧ y.d ≤ 60 := HS2.out y (by rw [← HHS.out, ← hyh]; exact List.getElem_mem hih)
              have hyI := HI.out y (by rw [hy]; exact List.getElem_mem hl)
              obtain ⟨hym, hyd⟩ := hys
              have hbv : Below wr.heap.size wr (wr.alloc (.cells #[.int .i64 y.kind, .int .u64 (y.n : Int), .bool y.t, .int .u32 (y.r : Int), .int .u16 (y.p.i : Int), .int .u32 (y.p.k : Int), .slice y.A y.m y.c, .slice y.B y.d y.e, .int .i64 y.most] 39)) := (Below.refl _ _).alloc (Nat.le_refl _) _
              have hTv := ThAt.new wr y
              obtain ⟨k0, k1, k2, k3, k4, k5, k6, k7, k8⟩ := th_at hc
              have cp := fun W => pick_any y.kind 6 W hyI.k0 hyI.k1 (by decide) (by decide)
              have htl : (thsF (hs9.drop (i + 1))).length ≤ 10000000 := HTL.out i
              obtain ⟨t, htt⟩ : ∃ t, t = thsF (hs9.drop (i + 1)) := ⟨_, rfl⟩
              rw [← htt] at hR htl
              have HT := hide htt
              have hbl2 := hR0.lt
              have hyB := hyI.below hb1
              obtain ⟨v1, hv1⟩ : ∃ v1, v1 = (wr.alloc (.cells #[.int .i64 y.kind, .int .u64 (y.n : Int), .bool y.t, .int .u32 (y.r : Int), .int .u16 (y.p.i : Int), .int .u32 (y.p.k : Int), .slice y.A y.m y.c, .slice y.B y.d y.e, .int .i64 y.most] 39)) := ⟨_, rfl⟩
              rw [← hv1] at hbv hTv
              have hb1v := hb1.trans (hbv.mono hs1)
              have hs1v := hb1v.size
              have hyv := hyI.below hb1v
              clear htt hc hy hyh hih hIv hR0 hyI
              rcases pick6 y.kind with hv | hv | hv | hv | hv | hv
              · have hF := thF_0 (x := y) hv
                rw [hv] at cp
                rw [hF] at hR
                have cn := fun W (h : RdAt W b (shortL y.n ++ t) 0) => rdnum_max b y.n t W h hyB.hn
                clear hF hv
                generalize shortL y.n ++ t = L at *
                go_wp2_with fail
                refine (cp _).mono ?_
                rintro e w' ⟨rfl, rfl⟩
                rw [← hv1]
                clear hv1 cp k0 k1 k2 k3 k4 k5 k6 k7 k8
                obtain ⟨f0, f1, f2, f3, f4, f5, f6, f7, f8⟩ := hTv.cells
                have h1 := hR.later hbv
                have hne : wr.heap.size ≠ b := by omega
                go_wp2_with fail
                go_region_held3 (fun w' => w'.cell? ⟨wr.heap.size, 1, none⟩ = some (.int .u64 (y.n : Int)))
                  (first | exact f1 | exact hT2.cell f1 (by simp; omega) (by simp))
                  (first | ((with_reducible refine (cn _ (rdAt_drew h1)).mono ?_); rintro e w2 ⟨rfl, h2, ht2⟩; have hT2 : Turn v1 w2 b none := Turn.ahead ((Below.refl _ _).drew) ht2))
                have hIn : InvR w w2 b hs9 (i + 1) := ⟨by rw [← HT.out]; exact h2, hb1v.trans (hT2.below hs1v hb (by simp)), hb⟩
                have HI2 := Lib.hid hIn
                clear hIn h1 f0 f1 f2 f3 f4 f5 f6 f7 f8 cn hyv hyB
                clear h2 hT2 ht2
                go_wp2
                go_roundw
                case rel => exact ⟨i + 1, by omega, by omega, by go_num, HI2.out⟩
                case measure => simp [intOf]; omega
              · have hF := thF_1 (x := y) hv
                rw [hv] at cp
                rw [hF] at hR
                have cn := fun W (h : RdAt W b (boolL y.t ++ t) 0) => rdtruth_front b y.t t W h
                clear hF hv
                generalize boolL y.t ++ t = L at *
                go_wp2_with fail
                refine (cp _).mono ?_
                rintro e w' ⟨rfl, rfl⟩
                rw [← hv1]
                clear hv1 cp k0 k1 k2 k3 k4 k5 k6 k7 k8
                obtain ⟨f0, f1, f2, f3, f4, f5, f6, f7, f8⟩ := hTv.cells
                have h1 := hR.later hbv
                have hne : wr.heap.size ≠ b := by omega
                go_wp2_with fail
                go_region_held3 (fun w' => w'.cell? ⟨wr.heap.size, 2, none⟩ = some (.bool y.t))
                  (first | exact f2 | exact hT2.cell f2 (by simp; omega) (by simp))
                  (first | ((with_reducible refine (cn _ (rdAt_drew h1)).mono ?_); rintro e w2 ⟨rfl, h2, ht2⟩; have hT2 : Turn v1 w2 b none := Turn.ahead ((Below.refl _ _).drew) ht2))
                have hIn : InvR w w2 b hs9 (i + 1) := ⟨by rw [← HT.out]; exact h2, hb1v.trans (hT2.below hs1v hb (by simp)), hb⟩
                have HI2 := Lib.hid hIn
                clear hIn h1 f0 f1 f2 f3 f4 f5 f6 f7 f8 cn hyv hyB
                clear h2 hT2 ht2
                go_wp2
                go_roundw
                case rel => exact ⟨i + 1, by omega, by omega, by go_num, HI2.out⟩
                case measure => simp [intOf]; omega
              · have hF := thF_2 (x := y) hv
                rw [hv] at cp
                rw [hF] at hR
                have cn := fun W (h : RdAt W b (pidL y.p.i y.p.k ++ t) 0) => rdpid_front b y.p.i y.p.k t W h y.p.hi y.p.hk
                clear hF hv
                generalize pidL y.p.i y.p.k ++ t = L at *
                go_wp2_with fail
                refine (cp _).mono ?_
                rintro e w' ⟨rfl, rfl⟩
                rw [← hv1]
                clear hv1 cp k0 k1 k2 k3 k4 k5 k6 k7 k8
                obtain ⟨f0, f1, f2, f3, f4, f5, f6, f7, f8⟩ := hTv.cells
                have h1 := hR.later hbv
                have hne : wr.heap.size ≠ b := by omega
                go_wp2_with fail
                go_region_held3 (fun w' => w'.cell? ⟨wr.heap.size, 4, none⟩ = some (.int .u16 (y.p.i : Int)) ∧ w'.cell? ⟨wr.heap.size, 5, none⟩ = some (.int .u32 (y.p.k : Int)))
                  (first | exact ⟨f4, f5⟩ | exact ⟨hT2.cell f4 (by simp; omega) (by simp), hT2.cell f5 (by simp; omega) (by simp)⟩)
                  (first | ((with_reducible refine (cn _ (rdAt_drew h1)).mono ?_); rintro e w2 ⟨rfl, h2, ht2⟩; have hT2 : Turn v1 w2 b none := Turn.ahead ((Below.refl _ _).drew) ht2))
                have hIn : InvR w w2 b hs9 (i + 1) := ⟨by rw [← HT.out]; exact h2, hb1v.trans (hT2.below hs1v hb (by simp)), hb⟩
                have HI2 := Lib.hid hIn
                clear hIn h1 f0 f1 f2 f3 f4 f5 f6 f7 f8 cn hyv hyB
                clear h2 hT2 ht2
                go_wp2
                go_roundw
                case rel => exact ⟨i + 1, by omega, by omega, by go_num, HI2.out⟩
                case measure => simp [intOf]; omega
              · have hF := thF_3 (x := y) hv
                rw [hv] at cp
                rw [hF] at hR
                have cn := fun W (h : RdAt W b ((shortL y.r ++ pidL y.p.i y.p.k) ++ t) 0) => rdballot_front b y.r y.p.i y.p.k t W h hyB.hr y.p.hi y.p.hk
                clear hF hv
                generalize (shortL y.r ++ pidL y.p.i y.p.k) ++ t = L at *
                go_wp2_with fail
                refine (cp _).mono ?_
                rintro e w' ⟨rfl, rfl⟩
                rw [← hv1]
                clear hv1 cp k0 k1 k2 k3 k4 k5 k6 k7 k8
                obtain ⟨f0, f1, f2, f3, f4, f5, f6, f7, f8⟩ := hTv.cells
                have h1 := hR.later hbv
                have hne : wr.heap.size ≠ b := by omega
                go_wp2_with fail
                go_region_held3 (fun w' => w'.cell? ⟨wr.heap.size, 3, none⟩ = some (.int .u32 (y.r : Int)) ∧ w'.cell? ⟨wr.heap.size, 4, none⟩ = some (.int .u16 (y.p.i : Int)) ∧ w'.cell? ⟨wr.heap.size, 5, none⟩ = some (.int .u32 (y.p.k : Int)))
                  (first | exact ⟨f3, f4, f5⟩ | exact ⟨hT2.cell f3 (by simp; omega) (by simp), hT2.cell f4 (by simp; omega) (by simp), hT2.cell f5 (by simp; omega) (by simp)⟩)
                  (first | ((with_reducible refine (cn _ (rdAt_drew h1)).mono ?_); rintro e w2 ⟨rfl, h2, ht2⟩; have hT2 : Turn v1 w2 b none := Turn.ahead ((Below.refl _ _).drew) ht2))
                have hIn : InvR w w2 b hs9 (i + 1) := ⟨by rw [← HT.out]; exact h2, hb1v.trans (hT2.below hs1v hb (by simp)), hb⟩
                have HI2 := Lib.hid hIn
                clear hIn h1 f0 f1 f2 f3 f4 f5 f6 f7 f8 cn hyv hyB
                clear h2 hT2 ht2
                go_wp2
                go_roundw
                case rel => exact ⟨i + 1, by omega, by omega, by go_num, HI2.out⟩
                case measure => simp [intOf]; omega
              · have hF := thF_4 (x := y) hv
                rw [hv] at cp
                rw [hF] at hR
                have cn := fun W (h : RdAt W b ((shortL y.m ++ y.l) ++ t) 0) => rdbytes_front b y.m 300 y.l t W h hyB.bs.len (by decide) (by omega) (by decide) htl
                clear hF hv
                generalize (shortL y.m ++ y.l) ++ t = L at *
                go_wp2_with fail
                refine (cp _).mono ?_
                rintro e w' ⟨rfl, rfl⟩
                rw [← hv1]
                clear hv1 cp k0 k1 k2 k3 k4 k5 k6 k7 k8
                obtain ⟨f0, f1, f2, f3, f4, f5, f6, f7, f8⟩ := hTv.cells
                have h1 := hR.later hbv
                have hne : wr.heap.size ≠ b := by omega
                go_wp2_with fail
                go_region_held3 (fun w' => w'.cell? ⟨wr.heap.size, 6, none⟩ = some (.slice y.A y.m y.c))
                  (first | exact f6 | exact hT2.cell f6 (by simp; omega) (by simp) | exact hT3.cell f6 (by simp; omega) (by simp))
                  (first | ((with_reducible refine (cn _ (rdAt_drew h1)).mono ?_); rintro e w2 ⟨A2, c2, rfl, hO2, h2, ht2⟩; have hT2 : Turn v1 w2 b none := Turn.ahead ((Below.refl _ _).drew) ht2; have hB2 := hyv.bs.below (hT2.below (B := w.heap.size) hs1v hb (by simp))) | ((with_reducible refine (same_eq A2 y.A y.m y.m c2 y.c y.l y.l _ _ w2 hO2.bs hB2 (by unfold maxLen; omega) rfl).mono ?_); rintro e w3 ⟨rfl, hd⟩; have hT3 := hT2.later (drawn_below hd); have h3 := h2.later (drawn_below hd)))
                have hIn : InvR w w3 b hs9 (i + 1) := ⟨by rw [← HT.out]; exact h3, hb1v.trans (hT3.below hs1v hb (by simp)), hb⟩
                have HI2 := Lib.hid hIn
                clear hIn h1 f0 f1 f2 f3 f4 f5 f6 f7 f8 cn hyv hyB
                clear h2 h3 hT3 hd hO2 hB2 hT2 ht2
                go_wp2
                go_roundw
                case rel => exact ⟨i + 1, by omega, by omega, by go_num, HI2.out⟩
                case measure => simp [intOf]; omega
              · have hF := thF_5 (x := y) hv
                rw [hv] at cp
                rw [hF] at hR
                have cn := fun W (h : RdAt W b ((shortL y.d ++ pidsL y.q) ++ t) 0) => rdpids_front b y.d 60 y.q t W h hyB.es.len (by decide) (by omega) (by decide)
                clear hF hv
                generalize (shortL y.d ++ pidsL y.q) ++ t = L at *
                go_wp2_with fail
                refine (cp _).mono ?_
                rintro e w' ⟨rfl, rfl⟩
                rw [← hv1]
                clear hv1 cp k0 k1 k2 k3 k4 k5 k6 k7 k8
                obtain ⟨f0, f1, f2, f3, f4, f5, f6, f7, f8⟩ := hTv.cells
                have h1 := hR.later hbv
                have hne : wr.heap.size ≠ b := by omega
                go_wp2_with fail
                go_region_held3 (fun w' => w'.cell? ⟨wr.heap.size, 7, none⟩ = some (.slice y.B y.d y.e))
                  (first | exact f7 | exact hT2.cell f7 (by simp; omega) (by simp) | exact hT3.cell f7 (by simp; omega) (by simp))
                  (first | ((with_reducible refine (cn _ (rdAt_drew h1)).mono ?_); rintro e w2 ⟨A2, c2, rfl, hO2, h2, ht2⟩; have hT2 : Turn v1 w2 b none := Turn.ahead ((Below.refl _ _).drew) ht2; have hB2 := hyv.es.below (hT2.below (B := w.heap.size) hs1v hb (by simp))) | ((with_reducible refine (samep_eq A2 y.B y.d y.d c2 y.e y.q y.q _ _ w2 (OwnE.es prOk hO2) hB2 (by unfold maxLen; omega) rfl).mono ?_); rintro e w3 ⟨rfl, hd⟩; have hT3 := hT2.later (drawn_below hd); have h3 := h2.later (drawn_below hd)))
                have hIn : InvR w w3 b hs9 (i + 1) := ⟨by rw [← HT.out]; exact h3, hb1v.trans (hT3.below hs1v hb (by simp)), hb⟩
                have HI2 := Lib.hid hIn
                clear hIn h1 f0 f1 f2 f3 f4 f5 f6 f7 f8 cn hyv hyB
                clear h2 h3 hT3 hd hO2 hB2 hT2 ht2
                go_wp2
                go_roundw
                case rel => exact ⟨i + 1, by omega, by omega, by go_num, HI2.out⟩
                case measure => simp [intOf]; omega
            · have hRe := hIv.end_ (by rw [HLM.out]; have := HJM.out; omega)
              have ce := rdend_any b [] 0 wr hRe
              have cl := left_any b [] 0 wr hRe
              have zz : i < n → ¬ (i : Int) < 60 := by omega
              clear hIv hR0 hRe
              by_cases hin : i < n
              all_goals
                first
                  | (have z3 := zz hin; have z2 : (i : Int) < (n : Int) := by omega)
                  | have z2 : ¬ (i : Int) < (n : Int) := by omega
                clear zz hlt
                go_wp2_with fail
                refine ce.mono ?_
                rintro e w' ⟨rfl, rfl⟩
                rw [show endF [] 0 = 0 from rfl]
                go_wp2_with fail
                refine cl.mono ?_
                rintro e w' ⟨rfl, rfl⟩
                go_wp2_with fail
                refine (awake7_any _).mono ?_
                rintro e w7 ⟨rfl, hb7⟩
                have hbz := hb1.trans (hb7.mono hs1)
                clear ce cl
                go_wp2
                go_ret
                exact ⟨rfl, hbz⟩
  · clear HS
    go_wp2_with fail
    refine (awake7_any _).mono ?_
    rintro e w' ⟨rfl, hb⟩
    go_wp2
    go_ret
    exact ⟨rfl, hb⟩

/-! ### THE ROW's STEP -/
set_option maxRecDepth 100000 in
theorem lifted (os : Os) (started : os.Started) (H : Type) (enc : TypeId × Value → H) :
    ReturnsInHanded {} Try.checked os 4 .any (Rows.bodyBackSpec.pre6 enc Try.prog Try.f4 Rows.bodyBackRow.domain false) (Rows.bodyBackSpec.post enc Try.prog Try.f4 false true false false) := by
  refine returnsInHanded_of_change (C := Try.checked) own started (by kernel_rfl) Try.func4
    (ChangeSpec.witness6 (enc := enc) (C := Try.checked) false ⟨#[], #[.slice none 0 0], []⟩ 8 (by kernel_rfl) (by kernel_rfl) (by kernel_rfl) (by kernel_rfl)) ?_
  intro W base args ds gs before hval0 hW hcnd _
  have hval : ∀ (j : Nat) t v, Try.f4.params[j]? = some t → args[j]? = some v → Value.okWide Try.prog W .any base t v := hval0
  have hW' := hW
  obtain ⟨p, q, hA0, hV, rfl, hfz, hnd⟩ := hW
  have hA : DataW.TrodAll enc Try.prog W 0 (fun _ => true) true Try.f4.params.toList args.toList ds p := hA0
  rw [Try.params4] at hA hval
  obtain ⟨v0, vs0, d0, ds0, p0, q0, hargs, rfl, rfl, h0, r0⟩ := trodAll_cons hA
  obtain ⟨rfl, rfl, rfl⟩ := trodAll_nil r0
  obtain rfl : args = #[v0] := by cases args; simp_all
  obtain ⟨rfl, rfl⟩ := trodVars_none hV
  have k0 := h0
  have lt0 : ∀ x ∈ p0, x.block < W.heap.size := by obtain ⟨m, hm⟩ := k0; exact DataW.trod_lt m _ _ _ hm
  obtain ⟨a0, len0, cap0, rfl⟩ := okWide_slice Try.underlying22 (hval 0 22 v0 rfl rfl)
  obtain ⟨z0, w0⟩ : ∃ l, Things0 W a0 len0 cap0 l := by
    obtain ⟨fuel, hf⟩ := h0
    exact things_row (open_things hf) rfl
  clear hA0 hval0
  refine (walk a0 len0 cap0 z0 W w0).mono fun e W' ⟨he, bel⟩ => ?_
  subst he
  exact ⟨_, rfl, _, _, _, [], _, [], hW', trodAll_mk1 (shut_bool Try.underlying4 _), (trodAll_cons_mk (Below.trod laidOut (by kernel_rfl) (of_decide_eq_true (by kernel_rfl)) k0 bel lt0) trodAll_mk0), rfl, bel.frame _, fun h => by cases h⟩

theorem over : Rows.bodyBackRow.holds Try.pinned (OpenSpec.ofChange Rows.bodyBackSpec) :=
  OpenClaim.holds_of_wide 4 Try.f4 rfl rfl rfl rfl rfl rfl rfl ⟨rfl, rfl, rfl, rfl, rfl⟩ rfl rfl rfl rfl rfl (by kernel_rfl) Try.func4 (by kernel_rfl)
    (of_decide_eq_true (by kernel_rfl)) (by unfold Func.isWrapper; first | (rw [if_pos (by decide +kernel)]; kernel_rfl) | (rw [if_neg (by decide +kernel)]; exact ⟨rfl, rfl⟩))
    (fun os started H enc _ => lifted os started H enc)

theorem proved : Rows.BodyBackSaid := over
#print axioms proved
end Go.Proofs.Ytgbfpolcefhemaa.bodyBack
