import Derived.Test.YtjmkecaljkcoiaaGreatDoorQLaidP
import Derived.Test.YtjmkecaljkcoiaaGreatDoorQBeat4
namespace Go.Proofs.YtjmkecaljkcoiaaGreatDoor
open Go.RowKit Go.Maps Go.Lib
set_option linter.unusedVariables false
set_option linter.unusedSimpArgs false
def susT (l : List Pr) : List UInt8 := l.flatMap fun p => 32 :: 33 :: pidT p.i p.k
def textB (b : Bt) : List UInt8 := [98, 101, 97, 116] ++ (32 :: 118 :: decDigits b.v) ++ (32 :: 97 :: decDigits b.a) ++ (32 :: 108 :: decDigits b.l) ++ (32 :: 115 :: decDigits b.s) ++ susT b.q
def numT (b : Bt) : Nat → List UInt8
  | 0 => [98, 101, 97, 116]
  | 1 => [98, 101, 97, 116] ++ (32 :: 118 :: decDigits b.v)
  | 2 => [98, 101, 97, 116] ++ (32 :: 118 :: decDigits b.v) ++ (32 :: 97 :: decDigits b.a)
  | 3 => [98, 101, 97, 116] ++ (32 :: 118 :: decDigits b.v) ++ (32 :: 97 :: decDigits b.a) ++ (32 :: 108 :: decDigits b.l)
  | _ => [98, 101, 97, 116] ++ (32 :: 118 :: decDigits b.v) ++ (32 :: 97 :: decDigits b.a) ++ (32 :: 108 :: decDigits b.l) ++ (32 :: 115 :: decDigits b.s)
def TxB (m : Bt) (l : List UInt8) : Prop := (MayB m ∧ l = textB m) ∨ (¬ MayB m ∧ l = [63])
theorem TxB.some_ (m : Bt) : ∃ l, TxB m l := by
  by_cases h : MayB m
  · exact ⟨_, .inl ⟨h, rfl⟩⟩
  · exact ⟨_, .inr ⟨h, rfl⟩⟩
theorem susT_step {l : List Pr} {j : Nat} (h : j < l.length) : susT (l.take (j + 1)) = susT (l.take j) ++ (32 :: 33 :: pidT l[j].i l[j].k) := by
  unfold susT
  rw [List.take_succ_eq_append_getElem h, List.flatMap_append]
  simp
theorem susT_len (l : List Pr) : (susT l).length ≤ 18 * l.length := by
  induction l with
  | nil => exact Nat.zero_le _
  | cons p t ih =>
    have e : susT (p :: t) = (32 :: 33 :: pidT p.i p.k) ++ susT t := rfl
    have := pidT_len p.i p.k p.hi p.hk
    rw [e, List.length_append]
    simp only [List.length_cons]
    omega
theorem dec62 {n : Nat} (h : n ≤ 4611686018427387904) : (decDigits n).length ≤ 20 := nDigits_20 n (by omega)
theorem numT_len {b : Bt} (h : MayB b) (j : Nat) (hj : j ≤ 4) : (numT b j).length ≤ 100 := by
  have h1 := dec62 h.v
  have h2 := dec62 h.a
  have h3 := dec62 h.l
  have h4 := dec62 h.s
  rcases (by omega : j = 0 ∨ j = 1 ∨ j = 2 ∨ j = 3 ∨ j = 4) with rfl | rfl | rfl | rfl | rfl <;> unfold numT <;> simp only [List.length_append, List.length_cons, List.length_nil] <;> omega
theorem sus_txt (U l : List UInt8) : txt U ++ ((⟨#[32, 33]⟩ : ByteArray) ++ txt l) = txt (U ++ (32 :: 33 :: l)) := by
  unfold txt
  apply ByteArray.ext
  apply Array.toList_inj.1
  simp [ByteArray.data_append]
theorem sus_txt2 (U l : List UInt8) : txt U ++ (⟨#[32, 33]⟩ : ByteArray) ++ txt l = txt (U ++ (32 :: 33 :: l)) := by
  unfold txt
  apply ByteArray.ext
  apply Array.toList_inj.1
  simp [ByteArray.data_append]
theorem val_txt (U : List UInt8) (c : UInt8) (n : Nat) : txt U ++ ((⟨#[32]⟩ : ByteArray) ++ (⟨#[c]⟩ : ByteArray) ++ decS n) = txt (U ++ (32 :: c :: decDigits n)) := by
  unfold decS txt
  apply ByteArray.ext
  apply Array.toList_inj.1
  simp [ByteArray.data_append]
theorem sl_vals (k k1 : Int) (n : Nat) (c : UInt8) (hk : k = (n : Int)) (hk1 : k1 = (n : Int) + 1) (hn : n < 4) (hc : (⟨#[118, 97, 108, 115]⟩ : ByteArray).extract n (n + 1) = ⟨#[c]⟩) (w : World) :
    (Instr.slice 9 (.string ⟨#[118, 97, 108, 115]⟩) (some (.int .i64 k)) (some (.int .i64 k1)) none).run Tryz.prog w = .ok (.string ⟨#[c]⟩) w := by
  subst hk; subst hk1
  have hs : (⟨#[118, 97, 108, 115]⟩ : ByteArray).size = 4 := rfl
  rw [run_slice_string w 9 _ .i64 .i64 _ _ Tryz.underlying9 (by omega) (by omega) (by rw [hs]; omega)]
  have e : ((n : Int).toNat = n) ∧ (((n : Int) + 1).toNat = n + 1) := ⟨by omega, by omega⟩
  rw [e.1, e.2, hc]
set_option maxRecDepth 100000 in
set_option maxHeartbeats 4000000 in
theorem mbeattext_any (x : Bx) (B : Nat) (w : World) (L : List UInt8) (h : BxIn w B x) (hB : B ≤ w.heap.size) (hL : TxB x.m L) (hP : Pows w) :
    Calls Tryz.prog 23 #[.agg #[.int .u64 x.v, .int .u64 x.a, .int .u64 x.l, .int .u64 x.s, .slice x.A x.n x.c]] w fun e w' => e = .returned (.string (txt L)) ∧ Below w.heap.size w w' := by
  obtain ⟨v, a, l, s, A, n, c, q⟩ := x
  have hbz : Below w.heap.size w (w.alloc (.cells #[.int .u64 v, .int .u64 a, .int .u64 l, .int .u64 s, .slice A n c] 59)) := (Below.refl _ _).alloc (Nat.le_refl _) _
  have v0 := BAt.mk_ w ⟨v, a, l, s, A, n, c, q⟩
  have hin := fun W (hb : Below w.heap.size w W) => h.below (hb.mono hB)
  have PIN := fun W (hb : Below w.heap.size w W) => hP.below hb
  have HZ := hide (And.intro hin PIN)
  have hlen := h.es.len
  have HLN := hide hlen
  generalize hw1 : w.alloc (.cells #[.int .u64 v, .int .u64 a, .int .u64 l, .int .u64 s, .slice A n c] 59) = w1 at *
  obtain ⟨k0, k1, k2, k3, k4⟩ := v0.cells
  by_cases hm : MayB (Bt.mk v a l s q)
  case neg =>
    have hl : L = [63] := by
      rcases hL with ⟨e, _⟩ | ⟨_, e⟩
      · exact absurd e hm
      · exact e
    subst hl
    have cm := maybeat_any ⟨v, a, l, s, A, n, c, q⟩ B w1 false (HZ.out.1 w1 hbz) (Nat.le_trans hB hbz.size) ⟨fun e => absurd e (by decide), fun e => absurd e hm⟩
    clear h hP hin PIN hL hm hlen
    go_enter Tryz.func23, Tryz.ntmps23
    go_wp2_with fail
    refine cm.mono ?_
    rintro e w2 ⟨rfl, hb⟩
    have hb2 := hbz.trans (hb.mono hbz.size)
    clear cm hb hw1 k0 k1 k2 k3 k4
    go_wp2
    go_ret
    exact ⟨rfl, hb2⟩
  have hl : L = textB (Bt.mk v a l s q) := by
    rcases hL with ⟨_, e⟩ | ⟨e, _⟩
    · exact e
    · exact absurd hm e
  have cm := maybeat_any ⟨v, a, l, s, A, n, c, q⟩ B w1 true (HZ.out.1 w1 hbz) (Nat.le_trans hB hbz.size) ⟨fun _ => hm, fun _ => rfl⟩
  have cn := numbers_any ⟨v, a, l, s, A, n, c, q⟩
  have hn24 : n ≤ 24 := by have e : q.length = n := hlen; rw [← e]; exact hm.n
  have HM := hide (And.intro hm hl)
  clear h hP hin PIN hL hm hlen hl
  have i0 : ∀ w, (Instr.index 121 (.agg #[.int .u64 v, .int .u64 a, .int .u64 l, .int .u64 s]) (.int .i64 0)).run Tryz.prog w = .ok (.int .u64 v) w := fun w => by simp [Instr.index, go_sem, asIntOf, part]
  have i1 : ∀ w, (Instr.index 121 (.agg #[.int .u64 v, .int .u64 a, .int .u64 l, .int .u64 s]) (.int .i64 1)).run Tryz.prog w = .ok (.int .u64 a) w := fun w => by simp [Instr.index, go_sem, asIntOf, part]
  have i2 : ∀ w, (Instr.index 121 (.agg #[.int .u64 v, .int .u64 a, .int .u64 l, .int .u64 s]) (.int .i64 2)).run Tryz.prog w = .ok (.int .u64 l) w := fun w => by simp [Instr.index, go_sem, asIntOf, part]
  have i3 : ∀ w, (Instr.index 121 (.agg #[.int .u64 v, .int .u64 a, .int .u64 l, .int .u64 s]) (.int .i64 3)).run Tryz.prog w = .ok (.int .u64 s) w := fun w => by simp [Instr.index, go_sem, asIntOf, part]
  have l0 : ∀ w, (Instr.slice 9 (.string ⟨#[118, 97, 108, 115]⟩) (some (.int .i64 0)) (some (.int .i64 1)) none).run Tryz.prog w = .ok (.string ⟨#[118]⟩) w := fun w => sl_vals 0 1 0 118 rfl rfl (by decide) (by decide) w
  have l1 : ∀ w, (Instr.slice 9 (.string ⟨#[118, 97, 108, 115]⟩) (some (.int .i64 1)) (some (.int .i64 2)) none).run Tryz.prog w = .ok (.string ⟨#[97]⟩) w := fun w => sl_vals 1 2 1 97 rfl rfl (by decide) (by decide) w
  have l2 : ∀ w, (Instr.slice 9 (.string ⟨#[118, 97, 108, 115]⟩) (some (.int .i64 2)) (some (.int .i64 3)) none).run Tryz.prog w = .ok (.string ⟨#[108]⟩) w := fun w => sl_vals 2 3 2 108 rfl rfl (by decide) (by decide) w
  have l3 : ∀ w, (Instr.slice 9 (.string ⟨#[118, 97, 108, 115]⟩) (some (.int .i64 3)) (some (.int .i64 4)) none).run Tryz.prog w = .ok (.string ⟨#[115]⟩) w := fun w => sl_vals 3 4 3 115 rfl rfl (by decide) (by decide) w
  go_enter Tryz.func23, Tryz.ntmps23
  go_wp2_with fail
  refine cm.mono ?_
  rintro e w2 ⟨rfl, hb⟩
  have hb2 := hbz.trans (hb.mono hbz.size)
  have v2 := v0.later hb
  clear cm hb hw1 k0 k1 k2 k3 k4 v0 hbz
  obtain ⟨k0, k1, k2, k3, k4⟩ := v2.cells
  go_wp2_with fail
  refine (cn _).mono ?_
  rintro e w3 ⟨rfl, hb⟩
  have hb3 := hb2.trans (hb.mono hb2.size)
  have v3 := v2.later hb
  clear cn hb k0 k1 k2 k3 k4 v2 hb2
  obtain ⟨U0, hU0⟩ : ∃ U : ByteArray, U = txt (numT (Bt.mk v a l s q) 0) := ⟨_, rfl⟩
  have hU0' : (⟨#[98, 101, 97, 116]⟩ : ByteArray) = U0 := hU0.symm
  go_wp2
  go_loopw [3, 13] (fun o i wr => ∃ j : Nat, i = .int .i64 j ∧ o = .string (txt (numT (Bt.mk v a l s q) j)) ∧ j ≤ 4 ∧ Below w3.heap.size w3 wr) (fun _ i _ => 4 - (RowKit.intOf i).toNat)
  case atStart => exact ⟨0, rfl, rfl, by omega, Below.refl _ _⟩
  case round =>
    obtain ⟨j, hi, ho, hj, hb⟩ := hrel
    have hbr := hb3.trans (hb.mono hb3.size)
    by_cases hlt : j < 4
    · rcases (by omega : j = 0 ∨ j = 1 ∨ j = 2 ∨ j = 3) with rfl | rfl | rfl | rfl
      · have hi2 : _ = Value.int .i64 (0 : Int) := hi
        subst hi2
        subst ho
        have hl4 := numT_len HM.out.1 0 (by decide)
        have hv62 := HM.out.1.v
        simp only at hv62
        have s1 := sizeD9 v (by omega)
        have s2 : (txt (numT (Bt.mk v a l s q) 0)).size ≤ 100 := by rw [txt_size]; exact hl4
        have hfin : txt (numT (Bt.mk v a l s q) 0) ++ ((⟨#[32]⟩ : ByteArray) ++ (⟨#[118]⟩ : ByteArray) ++ decS v) = txt (numT (Bt.mk v a l s q) 1) := val_txt _ 118 v
        have HF := hide hfin
        obtain ⟨w4, hw4⟩ : ∃ W, W = wr := ⟨_, rfl⟩
        subst hw4
        have cd := fun X : Later w4 => calm_of (mdecimal_any v X.w (by omega) (HZ.out.2 X.w (hbr.trans (X.below.mono hbr.size))))
        clear hi hj hlt hfin hl4 hv62
        generalize txt (numT (Bt.mk v a l s q) 0) = TU at *
        generalize decS v = D at *
        go_wp2_with fail
        refine wp_region_calm (by kernel_rfl) (by kernel_rfl) ?_
        repeat (go_big_quiet_step ((go_at_call 68; with_reducible exact cd _)))
        refine wpQuiet_nil ?_
        rintro _ ⟨x9, rfl⟩
        have hb9 := hb.trans (x9.below.mono hb.size)
        generalize x9.w = w9 at hb9 ⊢
        clear cd
        go_wp2
        go_roundw
        case rel => exact ⟨1, by first | rfl | go_num, by rw [← HF.out], by omega, hb9⟩
        case measure => first | decide | (simp [RowKit.intOf]; done) | (simp [RowKit.intOf]; omega)
      · have hi2 : _ = Value.int .i64 (1 : Int) := hi
        subst hi2
        subst ho
        have hl4 := numT_len HM.out.1 1 (by decide)
        have hv62 := HM.out.1.a
        simp only at hv62
        have s1 := sizeD9 a (by omega)
        have s2 : (txt (numT (Bt.mk v a l s q) 1)).size ≤ 100 := by rw [txt_size]; exact hl4
        have hfin : txt (numT (Bt.mk v a l s q) 1) ++ ((⟨#[32]⟩ : ByteArray) ++ (⟨#[97]⟩ : ByteArray) ++ decS a) = txt (numT (Bt.mk v a l s q) 2) := val_txt _ 97 a
        have HF := hide hfin
        obtain ⟨w4, hw4⟩ : ∃ W, W = wr := ⟨_, rfl⟩
        subst hw4
        have cd := fun X : Later w4 => calm_of (mdecimal_any a X.w (by omega) (HZ.out.2 X.w (hbr.trans (X.below.mono hbr.size))))
        clear hi hj hlt hfin hl4 hv62
        generalize txt (numT (Bt.mk v a l s q) 1) = TU at *
        generalize decS a = D at *
        go_wp2_with fail
        refine wp_region_calm (by kernel_rfl) (by kernel_rfl) ?_
        repeat (go_big_quiet_step ((go_at_call 68; with_reducible exact cd _)))
        refine wpQuiet_nil ?_
        rintro _ ⟨x9, rfl⟩
        have hb9 := hb.trans (x9.below.mono hb.size)
        generalize x9.w = w9 at hb9 ⊢
        clear cd
        go_wp2
        go_roundw
        case rel => exact ⟨2, by first | rfl | go_num, by rw [← HF.out], by omega, hb9⟩
        case measure => first | decide | (simp [RowKit.intOf]; done) | (simp [RowKit.intOf]; omega)
      · have hi2 : _ = Value.int .i64 (2 : Int) := hi
        subst hi2
        subst ho
        have hl4 := numT_len HM.out.1 2 (by decide)
        have hv62 := HM.out.1.l
        simp only at hv62
        have s1 := sizeD9 l (by omega)
        have s2 : (txt (numT (Bt.mk v a l s q) 2)).size ≤ 100 := by rw [txt_size]; exact hl4
        have hfin : txt (numT (Bt.mk v a l s q) 2) ++ ((⟨#[32]⟩ : ByteArray) ++ (⟨#[108]⟩ : ByteArray) ++ decS l) = txt (numT (Bt.mk v a l s q) 3) := val_txt _ 108 l
        have HF := hide hfin
        obtain ⟨w4, hw4⟩ : ∃ W, W = wr := ⟨_, rfl⟩
        subst hw4
        have cd := fun X : Later w4 => calm_of (mdecimal_any l X.w (by omega) (HZ.out.2 X.w (hbr.trans (X.below.mono hbr.size))))
        clear hi hj hlt hfin hl4 hv62
        generalize txt (numT (Bt.mk v a l s q) 2) = TU at *
        generalize decS l = D at *
        go_wp2_with fail
        refine wp_region_calm (by kernel_rfl) (by kernel_rfl) ?_
        repeat (go_big_quiet_step ((go_at_call 68; with_reducible exact cd _)))
        refine wpQuiet_nil ?_
        rintro _ ⟨x9, rfl⟩
        have hb9 := hb.trans (x9.below.mono hb.size)
        generalize x9.w = w9 at hb9 ⊢
        clear cd
        go_wp2
        go_roundw
        case rel => exact ⟨3, by first | rfl | go_num, by rw [← HF.out], by omega, hb9⟩
        case measure => first | decide | (simp [RowKit.intOf]; done) | (simp [RowKit.intOf]; omega)
      · have hi2 : _ = Value.int .i64 (3 : Int) := hi
        subst hi2
        subst ho
        have hl4 := numT_len HM.out.1 3 (by decide)
        have hv62 := HM.out.1.s
        simp only at hv62
        have s1 := sizeD9 s (by omega)
        have s2 : (txt (numT (Bt.mk v a l s q) 3)).size ≤ 100 := by rw [txt_size]; exact hl4
        have hfin : txt (numT (Bt.mk v a l s q) 3) ++ ((⟨#[32]⟩ : ByteArray) ++ (⟨#[115]⟩ : ByteArray) ++ decS s) = txt (numT (Bt.mk v a l s q) 4) := val_txt _ 115 s
        have HF := hide hfin
        obtain ⟨w4, hw4⟩ : ∃ W, W = wr := ⟨_, rfl⟩
        subst hw4
        have cd := fun X : Later w4 => calm_of (mdecimal_any s X.w (by omega) (HZ.out.2 X.w (hbr.trans (X.below.mono hbr.size))))
        clear hi hj hlt hfin hl4 hv62
        generalize txt (numT (Bt.mk v a l s q) 3) = TU at *
        generalize decS s = D at *
        go_wp2_with fail
        refine wp_region_calm (by kernel_rfl) (by kernel_rfl) ?_
        repeat (go_big_quiet_step ((go_at_call 68; with_reducible exact cd _)))
        refine wpQuiet_nil ?_
        rintro _ ⟨x9, rfl⟩
        have hb9 := hb.trans (x9.below.mono hb.size)
        generalize x9.w = w9 at hb9 ⊢
        clear cd
        go_wp2
        go_roundw
        case rel => exact ⟨4, by first | rfl | go_num, by rw [← HF.out], by omega, hb9⟩
        case measure => first | decide | (simp [RowKit.intOf]; done) | (simp [RowKit.intOf]; omega)
    · obtain rfl : j = 4 := by omega
      have hi2 : _ = Value.int .i64 (4 : Int) := hi
      subst hi2
      subst ho
      have v4 := v3.later hb
      have k4 := v4.cells.2.2.2.2
      have hl4 := numT_len HM.out.1 4 (by decide)
      obtain ⟨U, hU⟩ : ∃ U, U = numT (Bt.mk v a l s q) 4 := ⟨_, rfl⟩
      rw [← hU] at hl4 ⊢
      have HU := hide hU
      have hln : q.length = n := HLN.out
      clear hi hj hlt hU i0 i1 i2 i3 l0 l1 l2 l3 hU0 hU0' v4
      go_wp2
      clear k4
      go_loopw [3, 31] (fun o i wt => ∃ j : Nat, i = .int .i64 j ∧ o = .string (txt (U ++ susT (q.take j))) ∧ j ≤ n ∧ Below w3.heap.size w3 wt) (fun _ i _ => n - (RowKit.intOf i).toNat)
      case atStart => exact ⟨0, rfl, by simp [susT], Nat.zero_le _, hb⟩
      case round =>
        obtain ⟨j, rfl, rfl, hj, hbt⟩ := hrel
        have hbq := hb3.trans (hbt.mono hb3.size)
        clear hb hbr
        by_cases hlt : j < n
        · have es := (HZ.out.1 _ hbq).es
          have hB2 := Nat.le_trans hB hbq.size
          have PW := HZ.out.2 _ hbq
          obtain ⟨ad, hl, hAe, hbl, hcc⟩ := es.at_ prOk hlt
          have hAe : A = some ad := hAe
          subst hAe
          have hst := susT_step hl
          obtain ⟨p, hp⟩ : ∃ p, p = q[j] := ⟨_, rfl⟩
          rw [← hp] at hcc hst
          obtain ⟨c0, c1⟩ := pr_at hcc
          have hsl := susT_len (q.take j)
          have htk : (q.take j).length ≤ 24 := by rw [List.length_take]; omega
          have hfin : txt (U ++ susT (q.take j)) ++ ((⟨#[32, 33]⟩ : ByteArray) ++ pidS p.i p.k) = txt (U ++ susT (q.take (j + 1))) := by
            rw [hst, ← List.append_assoc]
            exact sus_txt _ _
          have HF := hide hfin
          have s1 := sizeP9 p
          have s2 : (txt (U ++ susT (q.take j))).size ≤ 1000 := by rw [txt_size, List.length_append]; omega
          have cp := fun W (hb : Below _ _ W) => print_any p.i p.k W p.hi p.hk (PW.below hb)
          clear es hcc hst hfin hp hsl htk
          generalize txt (U ++ susT (q.take j)) = TU at *
          generalize pidS p.i p.k = D at *
          go_wp2_with fail
          have hb5 : Below wr.heap.size wr (wr.alloc (.cells #[.int .u16 p.i, .int .u32 p.k] 44)) := (Below.refl _ _).alloc (Nat.le_refl _) _
          refine (cp _ hb5).mono ?_
          rintro e w6 ⟨rfl, hb6⟩
          have hb7 := hbt.trans ((hb5.trans (hb6.mono hb5.size)).mono hbt.size)
          clear cp hb5 hb6 c0 c1 PW
          go_wp2
          go_roundw
          case rel => exact ⟨j + 1, by go_num, by rw [HF.out], by omega, hb7⟩
          case measure => simp [RowKit.intOf]; omega
        · have hfin : txt (U ++ susT (q.take j)) = txt L := by
            rw [List.take_of_length_le (by omega), HU.out, HM.out.2]
            rfl
          rw [hfin]
          clear hfin
          go_wp2
          go_ret
          exact ⟨rfl, hbq⟩
end Go.Proofs.YtjmkecaljkcoiaaGreatDoor
namespace Go.Proofs.YtjmkecaljkcoiaaGreatDoor
open Go.RowKit Go.Maps Go.Lib
set_option linter.unusedVariables false
set_option linter.unusedSimpArgs false
theorem beat_txt (v a l s : Nat) (q : List Pr) : (⟨#[98, 101, 97, 116]⟩ : ByteArray) ++ txt (32 :: 118 :: decDigits v) ++ txt (32 :: 97 :: decDigits a) ++ txt (32 :: 108 :: decDigits l) ++ txt (32 :: 115 :: decDigits s) = txt (numT (Bt.mk v a l s q) 4) := by
  unfold numT txt
  apply ByteArray.ext
  apply Array.toList_inj.1
  simp [ByteArray.data_append]
set_option maxRecDepth 100000 in
set_option maxHeartbeats 4000000 in
theorem rmbeattext_any (x : Bx) (B : Nat) (w : World) (L : List UInt8) (h : BxIn w B x) (hB : B ≤ w.heap.size) (hL : TxB x.m L) :
    Calls Tryz.prog 24 #[.agg #[.int .u64 x.v, .int .u64 x.a, .int .u64 x.l, .int .u64 x.s, .slice x.A x.n x.c]] w fun e w' => e = .returned (.string (txt L)) ∧ Below w.heap.size w w' := by
  obtain ⟨v, a, l, s, A, n, c, q⟩ := x
  have hbz : Below w.heap.size w (w.alloc (.cells #[.int .u64 v, .int .u64 a, .int .u64 l, .int .u64 s, .slice A n c] 59)) := (Below.refl _ _).alloc (Nat.le_refl _) _
  have v0 := BAt.mk_ w ⟨v, a, l, s, A, n, c, q⟩
  have hin := fun W (hb : Below w.heap.size w W) => h.below (hb.mono hB)
  have HZ := hide hin
  have hlen := h.es.len
  have HLN := hide hlen
  generalize hw1 : w.alloc (.cells #[.int .u64 v, .int .u64 a, .int .u64 l, .int .u64 s, .slice A n c] 59) = w1 at *
  obtain ⟨k0, k1, k2, k3, k4⟩ := v0.cells
  by_cases hm : MayB (Bt.mk v a l s q)
  case neg =>
    have hl : L = [63] := by
      rcases hL with ⟨e, _⟩ | ⟨_, e⟩
      · exact absurd e hm
      · exact e
    subst hl
    have cm := rcheckbeat_any ⟨v, a, l, s, A, n, c, q⟩ B w1 false (HZ.out w1 hbz) (Nat.le_trans hB hbz.size) ⟨fun e => absurd e (by decide), fun e => absurd e hm⟩
    clear h hin hL hm hlen
    go_enter Tryz.func24, Tryz.ntmps24
    go_wp2_with fail
    refine cm.mono ?_
    rintro e w2 ⟨rfl, hb⟩
    have hb2 := hbz.trans (hb.mono hbz.size)
    clear cm hb hw1 k0 k1 k2 k3 k4
    go_wp2
    go_ret
    exact ⟨rfl, hb2⟩
  have hl : L = textB (Bt.mk v a l s q) := by
    rcases hL with ⟨_, e⟩ | ⟨e, _⟩
    · exact e
    · exact absurd hm e
  have cm := rcheckbeat_any ⟨v, a, l, s, A, n, c, q⟩ B w1 true (HZ.out w1 hbz) (Nat.le_trans hB hbz.size) ⟨fun _ => hm, fun _ => rfl⟩
  have hn24 : n ≤ 24 := by have e : q.length = n := hlen; rw [← e]; exact hm.n
  have hv := hm.v
  have ha := hm.a
  have hll := hm.l
  have hs := hm.s
  simp only at hv ha hll hs
  have HM := hide (And.intro hm hl)
  clear h hin hL hm hlen hl
  go_enter Tryz.func24, Tryz.ntmps24
  go_wp2_with fail
  refine cm.mono ?_
  rintro e w2 ⟨rfl, hb⟩
  have hb2 := hbz.trans (hb.mono hbz.size)
  have v2 := v0.later hb
  clear cm hb hw1 k0 k1 k2 k3 k4 v0 hbz
  obtain ⟨k0, k1, k2, k3, k4⟩ := v2.cells
  have dl := fun (c : UInt8) (n : Nat) (hn : n ≤ 4611686018427387904) => (by rw [txt_size]; have := dec62 hn; simp only [List.length_cons]; omega : (txt (32 :: c :: decDigits n)).size ≤ 22)
  have z0 := dl 118 v hv
  have z1 := dl 97 a ha
  have z2 := dl 108 l hll
  have z3 := dl 115 s hs
  have c0 : ∀ X : Later w2, Calls Tryz.prog 73 #[.string ⟨#[118]⟩, .int .u64 v] X.w fun e w'' => e = .returned (.string (txt (32 :: 118 :: decDigits v))) ∧ ∃ y : Later w2, w'' = y.w := fun X => calm_of (dnumber_any 118 v X.w (by omega))
  have c1 : ∀ X : Later w2, Calls Tryz.prog 73 #[.string ⟨#[97]⟩, .int .u64 a] X.w fun e w'' => e = .returned (.string (txt (32 :: 97 :: decDigits a))) ∧ ∃ y : Later w2, w'' = y.w := fun X => calm_of (dnumber_any 97 a X.w (by omega))
  have c2 : ∀ X : Later w2, Calls Tryz.prog 73 #[.string ⟨#[108]⟩, .int .u64 l] X.w fun e w'' => e = .returned (.string (txt (32 :: 108 :: decDigits l))) ∧ ∃ y : Later w2, w'' = y.w := fun X => calm_of (dnumber_any 108 l X.w (by omega))
  have c3 : ∀ X : Later w2, Calls Tryz.prog 73 #[.string ⟨#[115]⟩, .int .u64 s] X.w fun e w'' => e = .returned (.string (txt (32 :: 115 :: decDigits s))) ∧ ∃ y : Later w2, w'' = y.w := fun X => calm_of (dnumber_any 115 s X.w (by omega))
  have hbt := hide (beat_txt v a l s q)
  generalize txt (32 :: 118 :: decDigits v) = D0 at *
  generalize txt (32 :: 97 :: decDigits a) = D1 at *
  generalize txt (32 :: 108 :: decDigits l) = D2 at *
  generalize txt (32 :: 115 :: decDigits s) = D3 at *
  have e0 := Later.cell k0
  have e1 := Later.cell k1
  have e2 := Later.cell k2
  have e3 := Later.cell k3
  clear dl
  go_wp2_with fail
  refine wp_region_calm (by kernel_rfl) (by kernel_rfl) ?_
  repeat (go_big_quiet_step ((go_at_call 73; first | with_reducible exact c0 _ | with_reducible exact c1 _ | with_reducible exact c2 _ | with_reducible exact c3 _)))
  refine wpQuiet_nil ?_
  rintro _ ⟨x9, rfl⟩
  have hb9 := x9.below
  generalize x9.w = w3 at hb9 ⊢
  have hb3 := hb2.trans (hb9.mono hb2.size)
  have v3 := v2.later hb9
  have hl4 := numT_len HM.out.1 4 (by decide)
  obtain ⟨U, hU⟩ : ∃ U, U = numT (Bt.mk v a l s q) 4 := ⟨_, rfl⟩
  have HT : Hid (⟨#[98, 101, 97, 116]⟩ ++ D0 ++ D1 ++ D2 ++ D3 = txt U) := hide (by rw [hU]; exact hbt.out)
  rw [← hU] at hl4
  have HU := hide hU
  have hln : q.length = n := HLN.out
  clear c0 c1 c2 c3 e0 e1 e2 e3 z0 z1 z2 z3 k0 k1 k2 k3 k4 v2 hb2 hb9 hv ha hll hs hU hbt
  obtain ⟨TU0, hTU0⟩ : ∃ t : ByteArray, t = ⟨#[98, 101, 97, 116]⟩ ++ D0 ++ D1 ++ D2 ++ D3 := ⟨_, rfl⟩
  rw [← hTU0]
  rw [← hTU0] at HT
  clear hTU0
  go_wp2
  go_loopw [3, 4] (fun o i wt => ∃ j : Nat, i = .int .i64 j ∧ o = .string (txt (U ++ susT (q.take j))) ∧ j ≤ n ∧ Below w3.heap.size w3 wt) (fun _ i _ => n - (RowKit.intOf i).toNat)
  case atStart => exact ⟨0, rfl, by rw [HT.out]; simp [susT], Nat.zero_le _, Below.refl _ _⟩
  case round =>
    obtain ⟨j, rfl, rfl, hj, hbt⟩ := hrel
    have hbq := hb3.trans (hbt.mono hb3.size)
    have vr := v3.later hbt
    have k4 := vr.cells.2.2.2.2
    by_cases hlt : j < n
    · have es := (HZ.out _ hbq).es
      obtain ⟨ad, hl, hAe, hbl, hcc⟩ := es.at_ prOk hlt
      have hAe : A = some ad := hAe
      subst hAe
      have hst := susT_step hl
      obtain ⟨p, hp⟩ : ∃ p, p = q[j] := ⟨_, rfl⟩
      rw [← hp] at hcc hst
      obtain ⟨c0, c1⟩ := pr_at hcc
      have hsl := susT_len (q.take j)
      have htk : (q.take j).length ≤ 24 := by rw [List.length_take]; omega
      have hfin : txt (U ++ susT (q.take j)) ++ (⟨#[32, 33]⟩ : ByteArray) ++ pidS p.i p.k = txt (U ++ susT (q.take (j + 1))) := by
        rw [hst, ← List.append_assoc]
        exact sus_txt2 _ _
      have HF := hide hfin
      have s1 := sizeP9 p
      have s2 : (txt (U ++ susT (q.take j))).size ≤ 1000 := by rw [txt_size, List.length_append]; omega
      have cp := fun W => rprint_any p.i p.k W p.hi p.hk
      clear es hcc hst hfin hp hsl htk vr
      generalize txt (U ++ susT (q.take j)) = TU at *
      generalize pidS p.i p.k = D at *
      go_wp2_with fail
      refine (cp _).mono ?_
      rintro e w6 ⟨rfl, hb6⟩
      have hb7 := hbt.trans (hb6.mono hbt.size)
      clear cp hb6 c0 c1 k4
      go_wp2
      go_roundw
      case rel => exact ⟨j + 1, by go_num, by rw [HF.out], by omega, hb7⟩
      case measure => simp [RowKit.intOf]; omega
    · have hfin : txt (U ++ susT (q.take j)) = txt L := by
        rw [List.take_of_length_le (by omega), HU.out, HM.out.2]
        rfl
      rw [hfin]
      clear hfin vr
      go_wp2
      go_ret
      exact ⟨rfl, hbq⟩
end Go.Proofs.YtjmkecaljkcoiaaGreatDoor
