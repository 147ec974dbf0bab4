import Derived.Deep.DeepCutAuto
import Derived.Test.YtjmkecaljkcoiaaGreatDoorQMtB
import Derived.Test.YtjmkecaljkcoiaaGreatDoorQMsg8
namespace Go.Proofs.YtjmkecaljkcoiaaGreatDoor
open Go.RowKit Go.Maps Go.Lib
set_option linter.unusedVariables false
set_option linter.unusedSimpArgs false
structure RxS (w : World) (z : Mx) (W : World) : Prop where
  at_ : MAt10 W w.heap.size z
  bl : Below w.heap.size w W
theorem RxS.later {w W W' : World} {z : Mx} (h : RxS w z W) (hbl : Below W.heap.size W W') : RxS w z W' := ⟨h.at_.later hbl, h.bl.trans (hbl.mono h.bl.size)⟩
theorem app_txt (a b : List UInt8) : txt a ++ txt b = txt (a ++ b) := by
  unfold txt
  apply ByteArray.ext
  apply Array.toList_inj.1
  simp [ByteArray.data_append]
theorem p1_txt (U l : List UInt8) : txt U ++ (⟨#[32]⟩ : ByteArray) ++ txt l = txt (U ++ (32 :: l)) := by
  unfold txt
  apply ByteArray.ext
  apply Array.toList_inj.1
  simp [ByteArray.data_append]
theorem in2_txt (U l : List UInt8) : txt U ++ (⟨#[32, 91]⟩ : ByteArray) ++ txt l ++ (⟨#[93]⟩ : ByteArray) = txt (U ++ (32 :: 91 :: (l ++ [93]))) := by
  unfold txt
  apply ByteArray.ext
  apply Array.toList_inj.1
  simp [ByteArray.data_append]
theorem x_txt (U l : List UInt8) : txt U ++ (⟨#[32, 120]⟩ : ByteArray) ++ txt l = txt (U ++ (32 :: 120 :: l)) := by
  unfold txt
  apply ByteArray.ext
  apply Array.toList_inj.1
  simp [ByteArray.data_append]
theorem opT_yes {m : Ms} {i : Nat} (h : hasF m.kind m.has i = true) : opT m i = 32 :: partT m i := by unfold opT; rw [if_pos h]
theorem opT_no {m : Ms} {i : Nat} (h : hasF m.kind m.has i = false) : opT m i = [] := by unfold opT; rw [h]; rfl
theorem words_at : ∀ k, k < 15 → ∀ h : k < ([Value.string (⟨#[]⟩ : ByteArray), .string ⟨#[115, 117, 98, 109, 105, 116]⟩, .string ⟨#[99, 104, 111, 115, 101, 110]⟩, .string ⟨#[110, 101, 101, 100]⟩, .string ⟨#[112, 114, 101, 112, 97, 114, 101]⟩, .string ⟨#[112, 114, 111, 109, 105, 115, 101]⟩, .string ⟨#[97, 99, 99, 101, 112, 116]⟩, .string ⟨#[97, 99, 99, 101, 112, 116, 101, 100]⟩, .string ⟨#[110, 97, 99, 107]⟩, .string ⟨#[102, 108, 117, 115, 104]⟩, .string ⟨#[102, 108, 117, 115, 104, 101, 100]⟩, .string ⟨#[106, 111, 105, 110]⟩, .string ⟨#[119, 101, 108, 99, 111, 109, 101]⟩, .string ⟨#[108, 101, 97, 118, 101]⟩, .string ⟨#[101, 120, 112, 101, 108]⟩] : List Value).length, ([Value.string (⟨#[]⟩ : ByteArray), .string ⟨#[115, 117, 98, 109, 105, 116]⟩, .string ⟨#[99, 104, 111, 115, 101, 110]⟩, .string ⟨#[110, 101, 101, 100]⟩, .string ⟨#[112, 114, 101, 112, 97, 114, 101]⟩, .string ⟨#[112, 114, 111, 109, 105, 115, 101]⟩, .string ⟨#[97, 99, 99, 101, 112, 116]⟩, .string ⟨#[97, 99, 99, 101, 112, 116, 101, 100]⟩, .string ⟨#[110, 97, 99, 107]⟩, .string ⟨#[102, 108, 117, 115, 104]⟩, .string ⟨#[102, 108, 117, 115, 104, 101, 100]⟩, .string ⟨#[106, 111, 105, 110]⟩, .string ⟨#[119, 101, 108, 99, 111, 109, 101]⟩, .string ⟨#[108, 101, 97, 118, 101]⟩, .string ⟨#[101, 120, 112, 101, 108]⟩] : List Value)[k] = .string (txt (wordL k)) := by
  intro k hk h
  have : k = 0 ∨ k = 1 ∨ k = 2 ∨ k = 3 ∨ k = 4 ∨ k = 5 ∨ k = 6 ∨ k = 7 ∨ k = 8 ∨ k = 9 ∨ k = 10 ∨ k = 11 ∨ k = 12 ∨ k = 13 ∨ k = 14 := by omega
  rcases this with rfl | rfl | rfl | rfl | rfl | rfl | rfl | rfl | rfl | rfl | rfl | rfl | rfl | rfl | rfl <;> rfl
set_option maxRecDepth 100000 in
set_option maxHeartbeats 8000000 in
theorem rmtext_any (z : Mx) (B : Nat) (w : World) (L : List UInt8) (h : MxIn w B z) (hs : MSmall z) (hB : B ≤ w.heap.size) (hL : TxM z.m L) :
    Calls Tryz.prog 22 #[.agg #[.int .i64 z.kind, .int .u16 z.who.i, .int .u32 z.who.k, .int .u64 z.view, .int .u64 z.slot, .int .u64 z.num, .int .i64 z.hops, .int .u32 z.b.r, .int .u16 z.b.p.i, .int .u32 z.b.p.k, .int .u32 z.a.r, .int .u16 z.a.p.i, .int .u32 z.a.p.k, .bool z.has, .int .i64 z.y.kind, .int .u16 z.y.p.i, .int .u32 z.y.p.k, .int .u64 z.y.num, .int .u64 z.y.vn, .slice z.y.A z.y.n z.y.c, .int .u64 z.y.x.id, .slice z.y.x.A z.y.x.m z.y.x.c, .slice z.y.x.B z.y.x.d z.y.x.e, .slice z.y.x.C z.y.x.f z.y.x.g, .int .u64 z.x.id, .slice z.x.A z.x.m z.x.c, .slice z.x.B z.x.d z.x.e, .slice z.x.C z.x.f z.x.g, .slice z.A z.n z.c]] w fun e w' => e = .returned (.string (txt L)) ∧ Below w.heap.size w w' := by
  have hbz : Below w.heap.size w (w.alloc (.cells #[.int .i64 z.kind, .int .u16 z.who.i, .int .u32 z.who.k, .int .u64 z.view, .int .u64 z.slot, .int .u64 z.num, .int .i64 z.hops, .int .u32 z.b.r, .int .u16 z.b.p.i, .int .u32 z.b.p.k, .int .u32 z.a.r, .int .u16 z.a.p.i, .int .u32 z.a.p.k, .bool z.has, .int .i64 z.y.kind, .int .u16 z.y.p.i, .int .u32 z.y.p.k, .int .u64 z.y.num, .int .u64 z.y.vn, .slice z.y.A z.y.n z.y.c, .int .u64 z.y.x.id, .slice z.y.x.A z.y.x.m z.y.x.c, .slice z.y.x.B z.y.x.d z.y.x.e, .slice z.y.x.C z.y.x.f z.y.x.g, .int .u64 z.x.id, .slice z.x.A z.x.m z.x.c, .slice z.x.B z.x.d z.x.e, .slice z.x.C z.x.f z.x.g, .slice z.A z.n z.c] 50)) := (Below.refl _ _).alloc (Nat.le_refl _) _
  have v0 := MAt10.mk_ w z
  have ZIN := fun W (hb : Below w.heap.size w W) => h.below (hb.mono hB)
  have HZ := hide ZIN
  have HS := hide hs
  have HN := hide (And.intro h.hv (And.intro h.hs (And.intro h.hn h.bs.len)))
  clear h hs ZIN
  generalize hw1 : w.alloc (.cells #[.int .i64 z.kind, .int .u16 z.who.i, .int .u32 z.who.k, .int .u64 z.view, .int .u64 z.slot, .int .u64 z.num, .int .i64 z.hops, .int .u32 z.b.r, .int .u16 z.b.p.i, .int .u32 z.b.p.k, .int .u32 z.a.r, .int .u16 z.a.p.i, .int .u32 z.a.p.k, .bool z.has, .int .i64 z.y.kind, .int .u16 z.y.p.i, .int .u32 z.y.p.k, .int .u64 z.y.num, .int .u64 z.y.vn, .slice z.y.A z.y.n z.y.c, .int .u64 z.y.x.id, .slice z.y.x.A z.y.x.m z.y.x.c, .slice z.y.x.B z.y.x.d z.y.x.e, .slice z.y.x.C z.y.x.f z.y.x.g, .int .u64 z.x.id, .slice z.x.A z.x.m z.x.c, .slice z.x.B z.x.d z.x.e, .slice z.x.C z.x.f z.x.g, .slice z.A z.n z.c] 50) = w1 at *
  by_cases hmay : MayM z.m
  case neg =>
    have hl : L = [63] := by
      rcases hL with ⟨e, _⟩ | ⟨_, e⟩
      · exact absurd e hmay
      · exact e
    subst hl
    have ck := rcheck10_any z B w1 false (HZ.out w1 hbz) HS.out (Nat.le_trans hB hbz.size) ⟨fun e => (by cases e), fun e => absurd e hmay⟩
    clear hmay hL
    go_enter Tryz.func22, Tryz.ntmps22
    go_wp2_with (refine wpList_load_msg z w.heap.size rfl (.tmp 1) rfl rfl v0 ?_)
    refine ck.mono ?_
    rintro e w2 ⟨rfl, hb⟩
    have hb2 := hbz.trans (hb.mono hbz.size)
    clear hw1 v0 hb hbz ck
    go_wp2
    go_ret
    exact ⟨rfl, hb2⟩
  have hl : L = textM z.m := by
    rcases hL with ⟨_, e⟩ | ⟨e, _⟩
    · exact e
    · exact absurd hmay e
  have ck := rcheck10_any z B w1 true (HZ.out w1 hbz) HS.out (Nat.le_trans hB hbz.size) ⟨fun _ => hmay, fun _ => rfl⟩
  have hk := hmay.kind
  obtain ⟨kk, hkk⟩ := Int.eq_ofNat_of_zero_le (show 0 ≤ z.kind by have := hk.1; simp only [Mx.m] at this; omega)
  have hk14 : kk < 15 := by have := hk.2; simp only [Mx.m] at this; omega
  have hkn : z.m.kind.toNat = kk := by simp only [Mx.m]; omega
  have hop := fun i hi h6 => op_len hmay i hi h6 HN.out.1 HN.out.2.1 HN.out.2.2.1
  have HMAY := hide (And.intro hmay (And.intro hl (And.intro hkk (And.intro hkn hop))))
  have L := lets z.m.kind z.m.has
  have h6 : z.m.has = true → letB z.m.kind 112 = true := fun ht => by
    have e := (hmay.each 6 (by decide)).2
    rw [L.h6] at e
    cases hb : letB z.m.kind 112
    · have := e hb
      rw [show zeroF z.m 6 = (z.m.has = false) from rfl, ht] at this
      cases this
    · rfl
  have HL := hide (And.intro L h6)
  obtain ⟨f, hf⟩ : ∃ f, f = fldI z.kind := ⟨_, rfl⟩
  have HAS : ∀ (c : UInt8) W, Calls Tryz.prog 72 #[.string (tx10 f), .int .u8 c.toNat] W (fun e w' => e = .returned (.bool (letB z.kind c)) ∧ W = w') := fun c W => by
    rw [hf]
    exact has10_any c (fldI z.kind) W (letB z.kind c) (Nat.le_trans (fldT_len _) (by decide)) rfl
  have HF := hide hf
  have HH := hide HAS
  clear hmay hL hl hk hkk hkn hop L h6 hf HAS
  go_enter Tryz.func22, Tryz.ntmps22
  go_wp2_with (refine wpList_load_msg z w.heap.size rfl (.tmp 1) rfl rfl v0 ?_)
  refine ck.mono ?_
  rintro e w2 ⟨rfl, hb⟩
  have hb2 := hbz.trans (hb.mono hbz.size)
  have v2 := v0.later hb
  have l2 := v2.lt
  have j0 := v2.cells.1
  rw [HMAY.out.2.2.1] at j0
  have wk := words_at kk hk14
  have hi0 : (0 : Int) ≤ (kk : Int) := by omega
  have hi1 : (kk : Int) < 15 := by omega
  obtain ⟨U0, hU0⟩ : ∃ U, U = wordL kk := ⟨_, rfl⟩
  have hlen0 : U0.length ≤ 10 := by rw [hU0]; exact word_len kk hk14
  rw [← hU0] at wk
  have HU0 := hide hU0
  have CF := fun W => fields10_any (kk : Int) W (by omega) (by omega)
  rw [show fldI (kk : Int) = f from by rw [HF.out, HMAY.out.2.2.1]] at CF
  clear ck hw1 v0 hb hbz hU0
  go_wp2_with fail
  refine (CF _).mono ?_
  rintro e V0 ⟨rfl, hb⟩
  have S0 : RxS w z V0 := ⟨(v2.alloc _).later hb, (hb2.alloc hb2.size _).trans (hb.mono (Nat.le_trans hb2.size (by simp)))⟩
  clear CF wk hi0 hi1 j0 v2 l2 hb hb2
  obtain ⟨hh, hhh, hh4⟩ : ∃ n : Nat, n = z.hops.toNat ∧ IntKind.u64.wrap z.hops = (n : Int) ∧ n < 100 := by
    cases hb5 : hasF z.m.kind z.m.has 5
    · have e := (HMAY.out.1.each 5 (by decide)).2 hb5
      simp only [zeroF, Mx.m] at e
      exact ⟨0, by rw [e]; rfl, by rw [e]; rfl, by decide⟩
    · have e := (HMAY.out.1.each 5 (by decide)).1 hb5
      simp only [rightF, Mx.m] at e
      exact ⟨z.hops.toNat, rfl, by rw [IntKind.wrap_u64]; omega, by omega⟩
  have HHH := hide (And.intro hhh hh4)
  clear hhh hh4
  -- the field 0
  obtain ⟨t, ht⟩ : ∃ t, t = letB z.kind 119 := ⟨_, rfl⟩
  have htf : t = hasF z.m.kind z.m.has 0 := by rw [HL.out.1.h0]; exact ht
  have H_l : ∀ W, Calls Tryz.prog 72 #[.string (tx10 f), .int .u8 119] W (fun e w' => e = .returned (.bool t) ∧ W = w') := fun W => by rw [ht]; exact HH.out 119 W
  obtain ⟨U1, hU1⟩ : ∃ U, U = U0 ++ opT z.m 0 := ⟨_, rfl⟩
  have hlen1 : U1.length ≤ 2000010 := by rw [hU1, List.length_append]; have := HMAY.out.2.2.2.2 0 (by decide) (by decide); omega
  have HU1 := hide hU1
  have HT := hide htf
  clear hU1 htf ht
  go_upto_if 17 with (go_at_call 72; refine (H_l _).mono ?_; rintro e w8 ⟨rfl, rfl⟩)
  go_cut [3] (fun s3 wx => s3 = .string (txt U1) ∧ RxS w z wx)
  case first =>
    as_aux_lemma =>
    cases t
    · have e : U1 = U0 := by rw [HU1.out, opT_no HT.out.symm, List.append_nil]
      go_wp2_with fail
      go_meet
      exact ⟨by rw [e], S0⟩
    · have e : U1 = U0 ++ (32 :: partT z.m 0) := by rw [HU1.out, opT_yes HT.out.symm]
      have hr := (HMAY.out.1.each 0 (by decide)).1 HT.out.symm
      obtain ⟨D, hD⟩ : ∃ s, s = pidS z.who.i z.who.k := ⟨_, rfl⟩
      have hDs : D.size ≤ 16 := by rw [hD]; exact sizeP9 z.who
      have ck : ∀ W, Calls Tryz.prog 44 #[.agg #[.int .u16 z.who.i, .int .u32 z.who.k]] W (fun e w' => e = .returned (.string D) ∧ Below W.heap.size W w') := fun W => by rw [hD]; exact rprint_any z.who.i z.who.k W z.who.hi z.who.hk
      have hC : txt U0 ++ (⟨#[32]⟩ : ByteArray) ++ D = txt U1 := by rw [hD, e]; exact p1_txt _ _
      have hUs : (txt U0).size ≤ 20000010 := by rw [txt_size]; omega
      generalize txt U0 = TU at *
      have HC := hide hC
      have j1 := S0.at_.cells.2.1
      have j2 := S0.at_.cells.2.2.1
      have lz := S0.at_.lt
      clear hC hD e hr
      go_wp2_with fail
      refine (ck _).mono ?_
      rintro e W1 ⟨rfl, hbl⟩
      have S' := S0.later hbl
      clear ck hbl j1 j2 lz S0
      go_wp2_with fail
      go_meet
      exact ⟨by rw [HC.out], S'⟩
  case rest =>
  obtain ⟨hs3, S1⟩ := hcut
  subst hs3
  obtain ⟨V1, hwc⟩ : ∃ x, x = wc := ⟨_, rfl⟩
  subst hwc
  clear S0 hlen0 HT H_l
  -- the field 1
  obtain ⟨t, ht⟩ : ∃ t, t = letB z.kind 118 := ⟨_, rfl⟩
  have htf : t = hasF z.m.kind z.m.has 1 := by rw [HL.out.1.h1]; exact ht
  have H_l : ∀ W, Calls Tryz.prog 72 #[.string (tx10 f), .int .u8 118] W (fun e w' => e = .returned (.bool t) ∧ W = w') := fun W => by rw [ht]; exact HH.out 118 W
  obtain ⟨U2, hU2⟩ : ∃ U, U = U1 ++ opT z.m 1 := ⟨_, rfl⟩
  have hlen2 : U2.length ≤ 4000010 := by rw [hU2, List.length_append]; have := HMAY.out.2.2.2.2 1 (by decide) (by decide); omega
  have HU2 := hide hU2
  have HT := hide htf
  clear hU2 htf ht
  go_upto_if 25 with (go_at_call 72; refine (H_l _).mono ?_; rintro e w8 ⟨rfl, rfl⟩)
  go_cut [3] (fun s3 wx => s3 = .string (txt U2) ∧ RxS w z wx)
  case first =>
    as_aux_lemma =>
    cases t
    · have e : U2 = U1 := by rw [HU2.out, opT_no HT.out.symm, List.append_nil]
      go_wp2_with fail
      go_meet
      exact ⟨by rw [e], S1⟩
    · have e : U2 = U1 ++ (32 :: partT z.m 1) := by rw [HU2.out, opT_yes HT.out.symm]
      have hr := (HMAY.out.1.each 1 (by decide)).1 HT.out.symm
      obtain ⟨D, hD⟩ : ∃ s, s = txt (32 :: 118 :: decDigits z.view) := ⟨_, rfl⟩
      have hDs : D.size ≤ 22 := by rw [hD, txt_size]; have := nDigits_20 z.view HN.out.1; simp only [List.length_cons]; omega
      have ck : ∀ W, Calls Tryz.prog 73 #[.string ⟨#[118]⟩, .int .u64 z.view] W (fun e w' => e = .returned (.string D) ∧ Below W.heap.size W w') := fun W => by rw [hD]; exact dnumber_any 118 z.view W HN.out.1
      have hC : txt U1 ++ D = txt U2 := by rw [hD, e]; exact app_txt _ _
      have hUs : (txt U1).size ≤ 20000010 := by rw [txt_size]; omega
      generalize txt U1 = TU at *
      have HC := hide hC
      have j3 := S1.at_.cells.2.2.2.1
      have lz := S1.at_.lt
      clear hC hD e hr
      go_wp2_with fail
      refine (ck _).mono ?_
      rintro e W1 ⟨rfl, hbl⟩
      have S' := S1.later hbl
      clear ck hbl j3 lz S1
      go_wp2_with fail
      go_meet
      exact ⟨by rw [HC.out], S'⟩
  case rest =>
  obtain ⟨hs3, S2⟩ := hcut
  subst hs3
  obtain ⟨V2, hwc⟩ : ∃ x, x = wc := ⟨_, rfl⟩
  subst hwc
  clear S1 hlen1 HT H_l
  -- the field 2
  obtain ⟨t, ht⟩ : ∃ t, t = letB z.kind 115 := ⟨_, rfl⟩
  have htf : t = hasF z.m.kind z.m.has 2 := by rw [HL.out.1.h2]; exact ht
  have H_l : ∀ W, Calls Tryz.prog 72 #[.string (tx10 f), .int .u8 115] W (fun e w' => e = .returned (.bool t) ∧ W = w') := fun W => by rw [ht]; exact HH.out 115 W
  obtain ⟨U3, hU3⟩ : ∃ U, U = U2 ++ opT z.m 2 := ⟨_, rfl⟩
  have hlen3 : U3.length ≤ 6000010 := by rw [hU3, List.length_append]; have := HMAY.out.2.2.2.2 2 (by decide) (by decide); omega
  have HU3 := hide hU3
  have HT := hide htf
  clear hU3 htf ht
  go_upto_if 32 with (go_at_call 72; refine (H_l _).mono ?_; rintro e w8 ⟨rfl, rfl⟩)
  go_cut [3] (fun s3 wx => s3 = .string (txt U3) ∧ RxS w z wx)
  case first =>
    as_aux_lemma =>
    cases t
    · have e : U3 = U2 := by rw [HU3.out, opT_no HT.out.symm, List.append_nil]
      go_wp2_with fail
      go_meet
      exact ⟨by rw [e], S2⟩
    · have e : U3 = U2 ++ (32 :: partT z.m 2) := by rw [HU3.out, opT_yes HT.out.symm]
      have hr := (HMAY.out.1.each 2 (by decide)).1 HT.out.symm
      obtain ⟨D, hD⟩ : ∃ s, s = txt (32 :: 115 :: decDigits z.slot) := ⟨_, rfl⟩
      have hDs : D.size ≤ 22 := by rw [hD, txt_size]; have := nDigits_20 z.slot HN.out.2.1; simp only [List.length_cons]; omega
      have ck : ∀ W, Calls Tryz.prog 73 #[.string ⟨#[115]⟩, .int .u64 z.slot] W (fun e w' => e = .returned (.string D) ∧ Below W.heap.size W w') := fun W => by rw [hD]; exact dnumber_any 115 z.slot W HN.out.2.1
      have hC : txt U2 ++ D = txt U3 := by rw [hD, e]; exact app_txt _ _
      have hUs : (txt U2).size ≤ 20000010 := by rw [txt_size]; omega
      generalize txt U2 = TU at *
      have HC := hide hC
      have j4 := S2.at_.cells.2.2.2.2.1
      have lz := S2.at_.lt
      clear hC hD e hr
      go_wp2_with fail
      refine (ck _).mono ?_
      rintro e W1 ⟨rfl, hbl⟩
      have S' := S2.later hbl
      clear ck hbl j4 lz S2
      go_wp2_with fail
      go_meet
      exact ⟨by rw [HC.out], S'⟩
  case rest =>
  obtain ⟨hs3, S3⟩ := hcut
  subst hs3
  obtain ⟨V3, hwc⟩ : ∃ x, x = wc := ⟨_, rfl⟩
  subst hwc
  clear S2 hlen2 HT H_l
  -- the field 3
  obtain ⟨t, ht⟩ : ∃ t, t = letB z.kind 98 := ⟨_, rfl⟩
  have htf : t = hasF z.m.kind z.m.has 3 := by rw [HL.out.1.h3]; exact ht
  have H_l : ∀ W, Calls Tryz.prog 72 #[.string (tx10 f), .int .u8 98] W (fun e w' => e = .returned (.bool t) ∧ W = w') := fun W => by rw [ht]; exact HH.out 98 W
  obtain ⟨U4, hU4⟩ : ∃ U, U = U3 ++ opT z.m 3 := ⟨_, rfl⟩
  have hlen4 : U4.length ≤ 8000010 := by rw [hU4, List.length_append]; have := HMAY.out.2.2.2.2 3 (by decide) (by decide); omega
  have HU4 := hide hU4
  have HT := hide htf
  clear hU4 htf ht
  go_upto_if 39 with (go_at_call 72; refine (H_l _).mono ?_; rintro e w8 ⟨rfl, rfl⟩)
  go_cut [3] (fun s3 wx => s3 = .string (txt U4) ∧ RxS w z wx)
  case first =>
    as_aux_lemma =>
    cases t
    · have e : U4 = U3 := by rw [HU4.out, opT_no HT.out.symm, List.append_nil]
      go_wp2_with fail
      go_meet
      exact ⟨by rw [e], S3⟩
    · have e : U4 = U3 ++ (32 :: partT z.m 3) := by rw [HU4.out, opT_yes HT.out.symm]
      have hr := (HMAY.out.1.each 3 (by decide)).1 HT.out.symm
      obtain ⟨D, hD⟩ : ∃ s, s = txt (32 :: 98 :: balT z.b) := ⟨_, rfl⟩
      have hDs : D.size ≤ 102 := by rw [hD, txt_size]; have h1 := nDigits_20 z.b.r (by have := z.b.hr; omega); have h2 := pidT_len z.b.p.i z.b.p.k z.b.p.hi z.b.p.hk; unfold balT; simp only [List.length_append, List.length_cons]; omega
      have ck : ∀ W, Calls Tryz.prog 74 #[.string ⟨#[98]⟩, .agg #[.int .u32 z.b.r, .int .u16 z.b.p.i, .int .u32 z.b.p.k]] W (fun e w' => e = .returned (.string D) ∧ Below W.heap.size W w') := fun W => by rw [hD]; exact dballot_any 98 z.b W
      have hC : txt U3 ++ D = txt U4 := by rw [hD, e]; exact app_txt _ _
      have hUs : (txt U3).size ≤ 20000010 := by rw [txt_size]; omega
      generalize txt U3 = TU at *
      have HC := hide hC
      have j7 := S3.at_.cells.2.2.2.2.2.2.2.1
      have j8 := S3.at_.cells.2.2.2.2.2.2.2.2.1
      have j9 := S3.at_.cells.2.2.2.2.2.2.2.2.2.1
      have lz := S3.at_.lt
      clear hC hD e hr
      go_wp2_with fail
      refine (ck _).mono ?_
      rintro e W1 ⟨rfl, hbl⟩
      have S' := S3.later hbl
      clear ck hbl j7 j8 j9 lz S3
      go_wp2_with fail
      go_meet
      exact ⟨by rw [HC.out], S'⟩
  case rest =>
  obtain ⟨hs3, S4⟩ := hcut
  subst hs3
  obtain ⟨V4, hwc⟩ : ∃ x, x = wc := ⟨_, rfl⟩
  subst hwc
  clear S3 hlen3 HT H_l
  -- the field 4
  obtain ⟨t, ht⟩ : ∃ t, t = letB z.kind 110 := ⟨_, rfl⟩
  have htf : t = hasF z.m.kind z.m.has 4 := by rw [HL.out.1.h4]; exact ht
  have H_l : ∀ W, Calls Tryz.prog 72 #[.string (tx10 f), .int .u8 110] W (fun e w' => e = .returned (.bool t) ∧ W = w') := fun W => by rw [ht]; exact HH.out 110 W
  obtain ⟨U5, hU5⟩ : ∃ U, U = U4 ++ opT z.m 4 := ⟨_, rfl⟩
  have hlen5 : U5.length ≤ 10000010 := by rw [hU5, List.length_append]; have := HMAY.out.2.2.2.2 4 (by decide) (by decide); omega
  have HU5 := hide hU5
  have HT := hide htf
  clear hU5 htf ht
  go_upto_if 46 with (go_at_call 72; refine (H_l _).mono ?_; rintro e w8 ⟨rfl, rfl⟩)
  go_cut [3] (fun s3 wx => s3 = .string (txt U5) ∧ RxS w z wx)
  case first =>
    as_aux_lemma =>
    cases t
    · have e : U5 = U4 := by rw [HU5.out, opT_no HT.out.symm, List.append_nil]
      go_wp2_with fail
      go_meet
      exact ⟨by rw [e], S4⟩
    · have e : U5 = U4 ++ (32 :: partT z.m 4) := by rw [HU5.out, opT_yes HT.out.symm]
      have hr := (HMAY.out.1.each 4 (by decide)).1 HT.out.symm
      obtain ⟨D, hD⟩ : ∃ s, s = txt (32 :: 110 :: decDigits z.num) := ⟨_, rfl⟩
      have hDs : D.size ≤ 22 := by rw [hD, txt_size]; have := nDigits_20 z.num HN.out.2.2.1; simp only [List.length_cons]; omega
      have ck : ∀ W, Calls Tryz.prog 73 #[.string ⟨#[110]⟩, .int .u64 z.num] W (fun e w' => e = .returned (.string D) ∧ Below W.heap.size W w') := fun W => by rw [hD]; exact dnumber_any 110 z.num W HN.out.2.2.1
      have hC : txt U4 ++ D = txt U5 := by rw [hD, e]; exact app_txt _ _
      have hUs : (txt U4).size ≤ 20000010 := by rw [txt_size]; omega
      generalize txt U4 = TU at *
      have HC := hide hC
      have j5 := S4.at_.cells.2.2.2.2.2.1
      have lz := S4.at_.lt
      clear hC hD e hr
      go_wp2_with fail
      refine (ck _).mono ?_
      rintro e W1 ⟨rfl, hbl⟩
      have S' := S4.later hbl
      clear ck hbl j5 lz S4
      go_wp2_with fail
      go_meet
      exact ⟨by rw [HC.out], S'⟩
  case rest =>
  obtain ⟨hs3, S5⟩ := hcut
  subst hs3
  obtain ⟨V5, hwc⟩ : ∃ x, x = wc := ⟨_, rfl⟩
  subst hwc
  clear S4 hlen4 HT H_l
  -- the field 5
  obtain ⟨t, ht⟩ : ∃ t, t = letB z.kind 104 := ⟨_, rfl⟩
  have htf : t = hasF z.m.kind z.m.has 5 := by rw [HL.out.1.h5]; exact ht
  have H_l : ∀ W, Calls Tryz.prog 72 #[.string (tx10 f), .int .u8 104] W (fun e w' => e = .returned (.bool t) ∧ W = w') := fun W => by rw [ht]; exact HH.out 104 W
  obtain ⟨U6, hU6⟩ : ∃ U, U = U5 ++ opT z.m 5 := ⟨_, rfl⟩
  have hlen6 : U6.length ≤ 12000010 := by rw [hU6, List.length_append]; have := HMAY.out.2.2.2.2 5 (by decide) (by decide); omega
  have HU6 := hide hU6
  have HT := hide htf
  clear hU6 htf ht
  go_upto_if 53 with (go_at_call 72; refine (H_l _).mono ?_; rintro e w8 ⟨rfl, rfl⟩)
  go_cut [3] (fun s3 wx => s3 = .string (txt U6) ∧ RxS w z wx)
  case first =>
    as_aux_lemma =>
    cases t
    · have e : U6 = U5 := by rw [HU6.out, opT_no HT.out.symm, List.append_nil]
      go_wp2_with fail
      go_meet
      exact ⟨by rw [e], S5⟩
    · have e : U6 = U5 ++ (32 :: partT z.m 5) := by rw [HU6.out, opT_yes HT.out.symm]
      have hr := (HMAY.out.1.each 5 (by decide)).1 HT.out.symm
      have wr5 := HHH.out.2.1
      obtain ⟨D, hD⟩ : ∃ s, s = txt (32 :: 104 :: decDigits hh) := ⟨_, rfl⟩
      have hDs : D.size ≤ 22 := by rw [hD, txt_size]; have := nDigits_20 hh (by have := HHH.out.2.2; omega); simp only [List.length_cons]; omega
      have ck : ∀ W, Calls Tryz.prog 73 #[.string ⟨#[104]⟩, .int .u64 hh] W (fun e w' => e = .returned (.string D) ∧ Below W.heap.size W w') := fun W => by rw [hD]; exact dnumber_any 104 hh W (by have := HHH.out.2.2; omega)
      have hC : txt U5 ++ D = txt U6 := by rw [hD, e, HHH.out.1]; exact app_txt _ _
      have hUs : (txt U5).size ≤ 20000010 := by rw [txt_size]; omega
      generalize txt U5 = TU at *
      have HC := hide hC
      have j6 := S5.at_.cells.2.2.2.2.2.2.1
      have lz := S5.at_.lt
      clear hC hD e hr
      go_wp2_with fail
      refine (ck _).mono ?_
      rintro e W1 ⟨rfl, hbl⟩
      have S' := S5.later hbl
      clear ck hbl j6 lz S5
      go_wp2_with fail
      go_meet
      exact ⟨by rw [HC.out], S'⟩
  case rest =>
  obtain ⟨hs3, S6⟩ := hcut
  subst hs3
  obtain ⟨V6, hwc⟩ : ∃ x, x = wc := ⟨_, rfl⟩
  subst hwc
  clear S5 hlen5 HT H_l
  -- the field 7
  obtain ⟨t, ht⟩ : ∃ t, t = z.has := ⟨_, rfl⟩
  have htf : t = hasF z.m.kind z.m.has 7 := by
    rw [HL.out.1.h7, ht]
    show z.m.has = _
    cases hq : z.m.has
    · simp
    · rw [HL.out.2 hq]; rfl
  have j13 := S6.at_.cells.2.2.2.2.2.2.2.2.2.2.2.2.2.1
  rw [← ht] at j13
  have l13 := S6.at_.lt
  obtain ⟨U7, hU7⟩ : ∃ U, U = U6 ++ opT z.m 7 := ⟨_, rfl⟩
  have hlen7 : U7.length ≤ 14000010 := by rw [hU7, List.length_append]; have := HMAY.out.2.2.2.2 7 (by decide) (by decide); omega
  have HU7 := hide hU7
  have HT := hide htf
  clear hU7 htf ht
  go_upto_if 61 with fail
  go_cut [3] (fun s3 wx => s3 = .string (txt U7) ∧ RxS w z wx)
  case first =>
    as_aux_lemma =>
    cases t
    · have e : U7 = U6 := by rw [HU7.out, opT_no HT.out.symm, List.append_nil]
      go_wp2_with fail
      go_meet
      exact ⟨by rw [e], S6⟩
    · have e : U7 = U6 ++ (32 :: partT z.m 7) := by rw [HU7.out, opT_yes HT.out.symm]
      have hr := (HMAY.out.1.each 7 (by decide)).1 HT.out.symm
      obtain ⟨D, hD⟩ : ∃ s, s = txt (32 :: 97 :: balT z.a) := ⟨_, rfl⟩
      have hDs : D.size ≤ 102 := by rw [hD, txt_size]; have h1 := nDigits_20 z.a.r (by have := z.a.hr; omega); have h2 := pidT_len z.a.p.i z.a.p.k z.a.p.hi z.a.p.hk; unfold balT; simp only [List.length_append, List.length_cons]; omega
      have ck : ∀ W, Calls Tryz.prog 74 #[.string ⟨#[97]⟩, .agg #[.int .u32 z.a.r, .int .u16 z.a.p.i, .int .u32 z.a.p.k]] W (fun e w' => e = .returned (.string D) ∧ Below W.heap.size W w') := fun W => by rw [hD]; exact dballot_any 97 z.a W
      have hC : txt U6 ++ D = txt U7 := by rw [hD, e]; exact app_txt _ _
      have hUs : (txt U6).size ≤ 20000010 := by rw [txt_size]; omega
      generalize txt U6 = TU at *
      have HC := hide hC
      have j10 := S6.at_.cells.2.2.2.2.2.2.2.2.2.2.1
      have j11 := S6.at_.cells.2.2.2.2.2.2.2.2.2.2.2.1
      have j12 := S6.at_.cells.2.2.2.2.2.2.2.2.2.2.2.2.1
      have lz := S6.at_.lt
      clear hC hD e hr
      go_wp2_with fail
      refine (ck _).mono ?_
      rintro e W1 ⟨rfl, hbl⟩
      have S' := S6.later hbl
      clear ck hbl j10 j11 j12 lz S6
      go_wp2_with fail
      go_meet
      exact ⟨by rw [HC.out], S'⟩
  case rest =>
  obtain ⟨hs3, S7⟩ := hcut
  subst hs3
  obtain ⟨V7, hwc⟩ : ∃ x, x = wc := ⟨_, rfl⟩
  subst hwc
  clear S6 hlen6 HT j13 l13
  -- the field 8
  obtain ⟨t, ht⟩ : ∃ t, t = (z.has || letB z.kind 99) := ⟨_, rfl⟩
  have htf : t = hasF z.m.kind z.m.has 8 := by
    rw [HL.out.1.h8, ht]
    show (z.m.has || letB z.m.kind 99) = _
    cases hq : z.m.has
    · simp
    · rw [HL.out.2 hq]; simp
  obtain ⟨u, hu⟩ : ∃ u, u = letB z.kind 99 := ⟨_, rfl⟩
  have H_l : ∀ W, Calls Tryz.prog 72 #[.string (tx10 f), .int .u8 99] W (fun e w' => e = .returned (.bool u) ∧ W = w') := fun W => by rw [hu]; exact HH.out 99 W
  obtain ⟨v, hv⟩ : ∃ v, v = z.has := ⟨_, rfl⟩
  rw [← hv, ← hu] at ht
  have j13 := S7.at_.cells.2.2.2.2.2.2.2.2.2.2.2.2.2.1
  rw [← hv] at j13
  have l13 := S7.at_.lt
  obtain ⟨U8, hU8⟩ : ∃ U, U = U7 ++ opT z.m 8 := ⟨_, rfl⟩
  have hlen8 : U8.length ≤ 16000010 := by rw [hU8, List.length_append]; have := HMAY.out.2.2.2.2 8 (by decide) (by decide); omega
  have HU8 := hide hU8
  have HT := hide htf
  clear hU8 htf
  have hv' := hide hv
  have hu' := hide hu
  have HT8 := hide ht
  clear hv hu ht
  go_upto_region 19 with fail
  go_cut [3, 72] (fun s3 s72 wx => s3 = .string (txt U7) ∧ s72 = .bool t ∧ RxS w z wx)
  case first =>
    as_aux_lemma =>
    cases v
    · have e8 : t = u := by rw [HT8.out]; rfl
      subst e8
      go_wp2_with (refine (H_l _).mono ?_; rintro e w8 ⟨rfl, rfl⟩)
      go_meet
      exact ⟨rfl, rfl, S7⟩
    · have e8 : t = true := by rw [HT8.out]; rfl
      subst e8
      go_wp2_with fail
      go_meet
      exact ⟨rfl, rfl, S7⟩
  case rest =>
  obtain ⟨hs3, hs72, S7⟩ := hcut
  subst hs3
  subst hs72
  obtain ⟨WX, hwc⟩ : ∃ x, x = wc := ⟨_, rfl⟩
  subst hwc
  go_upto_if 72 with fail
  go_cut [3] (fun s3 wx => s3 = .string (txt U8) ∧ RxS w z wx)
  case first =>
    as_aux_lemma =>
    cases t
    · have e : U8 = U7 := by rw [HU8.out, opT_no HT.out.symm, List.append_nil]
      go_wp2_with fail
      go_meet
      exact ⟨by rw [e], S7⟩
    · have e : U8 = U7 ++ (32 :: partT z.m 8) := by rw [HU8.out, opT_yes HT.out.symm]
      have hr := (HMAY.out.1.each 8 (by decide)).1 HT.out.symm
      obtain ⟨D, hD⟩ : ∃ s, s = txt (textL z.y.m) := ⟨_, rfl⟩
      have hDs : D.size ≤ 1000100 := by rw [hD, txt_size]; exact textL_len hr
      have ck := rtext_any z.y B _ (textL z.y.m) (HZ.out _ S7.bl).cm HS.out.c (Nat.le_trans hB S7.bl.size) (.inl ⟨hr, rfl⟩)
      rw [← hD] at ck
      have hC : txt U7 ++ (⟨#[32, 91]⟩ : ByteArray) ++ D ++ (⟨#[93]⟩ : ByteArray) = txt U8 := by rw [hD, e]; exact in2_txt _ _
      have hUs : (txt U7).size ≤ 20000010 := by rw [txt_size]; omega
      generalize txt U7 = TU at *
      have HC := hide hC
      have j14 := S7.at_.cells.2.2.2.2.2.2.2.2.2.2.2.2.2.2.1
      have j15 := S7.at_.cells.2.2.2.2.2.2.2.2.2.2.2.2.2.2.2.1
      have j16 := S7.at_.cells.2.2.2.2.2.2.2.2.2.2.2.2.2.2.2.2.1
      have j17 := S7.at_.cells.2.2.2.2.2.2.2.2.2.2.2.2.2.2.2.2.2.1
      have j18 := S7.at_.cells.2.2.2.2.2.2.2.2.2.2.2.2.2.2.2.2.2.2.1
      have j19 := S7.at_.cells.2.2.2.2.2.2.2.2.2.2.2.2.2.2.2.2.2.2.2.1
      have j20 := S7.at_.cells.2.2.2.2.2.2.2.2.2.2.2.2.2.2.2.2.2.2.2.2.1
      have j21 := S7.at_.cells.2.2.2.2.2.2.2.2.2.2.2.2.2.2.2.2.2.2.2.2.2.1
      have j22 := S7.at_.cells.2.2.2.2.2.2.2.2.2.2.2.2.2.2.2.2.2.2.2.2.2.2.1
      have j23 := S7.at_.cells.2.2.2.2.2.2.2.2.2.2.2.2.2.2.2.2.2.2.2.2.2.2.2.1
      have lz := S7.at_.lt
      clear hC hD e hr
      go_wp2_with fail
      refine (ck).mono ?_
      rintro e W1 ⟨rfl, hbl⟩
      have S' := S7.later hbl
      clear ck hbl j14 j15 j16 j17 j18 j19 j20 j21 j22 j23 lz S7
      go_wp2_with fail
      go_meet
      exact ⟨by rw [HC.out], S'⟩
  case rest =>
  obtain ⟨hs3, S8⟩ := hcut
  subst hs3
  obtain ⟨V8, hwc⟩ : ∃ x, x = wc := ⟨_, rfl⟩
  subst hwc
  try clear j13 l13
  clear S7 hlen7 HT H_l hv' hu' HT8
  -- the field 9
  obtain ⟨t, ht⟩ : ∃ t, t = letB z.kind 86 := ⟨_, rfl⟩
  have htf : t = hasF z.m.kind z.m.has 9 := by rw [HL.out.1.h9]; exact ht
  have H_l : ∀ W, Calls Tryz.prog 72 #[.string (tx10 f), .int .u8 86] W (fun e w' => e = .returned (.bool t) ∧ W = w') := fun W => by rw [ht]; exact HH.out 86 W
  obtain ⟨U9, hU9⟩ : ∃ U, U = U8 ++ opT z.m 9 := ⟨_, rfl⟩
  have hlen9 : U9.length ≤ 18000010 := by rw [hU9, List.length_append]; have := HMAY.out.2.2.2.2 9 (by decide) (by decide); omega
  have HU9 := hide hU9
  have HT := hide htf
  clear hU9 htf ht
  go_upto_if 81 with (go_at_call 72; refine (H_l _).mono ?_; rintro e w8 ⟨rfl, rfl⟩)
  go_cut [3] (fun s3 wx => s3 = .string (txt U9) ∧ RxS w z wx)
  case first =>
    as_aux_lemma =>
    cases t
    · have e : U9 = U8 := by rw [HU9.out, opT_no HT.out.symm, List.append_nil]
      go_wp2_with fail
      go_meet
      exact ⟨by rw [e], S8⟩
    · have e : U9 = U8 ++ (32 :: partT z.m 9) := by rw [HU9.out, opT_yes HT.out.symm]
      have hr := (HMAY.out.1.each 9 (by decide)).1 HT.out.symm
      obtain ⟨D, hD⟩ : ∃ s, s = txt (printL z.x.v) := ⟨_, rfl⟩
      have hDs : D.size ≤ 1000000 := by rw [hD, txt_size]; exact printL_len hr
      have ck := rprint8_any z.x B _ (HZ.out _ S8.bl).vw HS.out.v (Nat.le_trans hB S8.bl.size) hr
      rw [← hD] at ck
      have hC : txt U8 ++ (⟨#[32, 91]⟩ : ByteArray) ++ D ++ (⟨#[93]⟩ : ByteArray) = txt U9 := by rw [hD, e]; exact in2_txt _ _
      have hUs : (txt U8).size ≤ 20000010 := by rw [txt_size]; omega
      generalize txt U8 = TU at *
      have HC := hide hC
      have j24 := S8.at_.cells.2.2.2.2.2.2.2.2.2.2.2.2.2.2.2.2.2.2.2.2.2.2.2.2.1
      have j25 := S8.at_.cells.2.2.2.2.2.2.2.2.2.2.2.2.2.2.2.2.2.2.2.2.2.2.2.2.2.1
      have j26 := S8.at_.cells.2.2.2.2.2.2.2.2.2.2.2.2.2.2.2.2.2.2.2.2.2.2.2.2.2.2.1
      have j27 := S8.at_.cells.2.2.2.2.2.2.2.2.2.2.2.2.2.2.2.2.2.2.2.2.2.2.2.2.2.2.2.1
      have lz := S8.at_.lt
      clear hC hD e hr
      go_wp2_with fail
      refine (ck).mono ?_
      rintro e W1 ⟨rfl, hbl⟩
      have S' := S8.later hbl
      clear ck hbl j24 j25 j26 j27 lz S8
      go_wp2_with fail
      go_meet
      exact ⟨by rw [HC.out], S'⟩
  case rest =>
  obtain ⟨hs3, S9⟩ := hcut
  subst hs3
  obtain ⟨V9, hwc⟩ : ∃ x, x = wc := ⟨_, rfl⟩
  subst hwc
  clear S8 hlen8 HT H_l
  -- the field 10
  obtain ⟨t, ht⟩ : ∃ t, t = letB z.kind 121 := ⟨_, rfl⟩
  have htf : t = hasF z.m.kind z.m.has 10 := by rw [HL.out.1.h10]; exact ht
  have H_l : ∀ W, Calls Tryz.prog 72 #[.string (tx10 f), .int .u8 121] W (fun e w' => e = .returned (.bool t) ∧ W = w') := fun W => by rw [ht]; exact HH.out 121 W
  obtain ⟨U10, hU10⟩ : ∃ U, U = U9 ++ opT z.m 10 := ⟨_, rfl⟩
  have hlen10 : U10.length ≤ 20000010 := by rw [hU10, List.length_append]; have := HMAY.out.2.2.2.2 10 (by decide) (by decide); omega
  have HU10 := hide hU10
  have HT := hide htf
  clear hU10 htf ht
  go_upto_if 90 with (go_at_call 72; refine (H_l _).mono ?_; rintro e w8 ⟨rfl, rfl⟩)
  go_cut [3] (fun s3 wx => s3 = .string (txt U10) ∧ RxS w z wx)
  case first =>
    as_aux_lemma =>
    cases t
    · have e : U10 = U9 := by rw [HU10.out, opT_no HT.out.symm, List.append_nil]
      go_wp2_with fail
      go_meet
      exact ⟨by rw [e], S9⟩
    · have e : U10 = U9 ++ (32 :: partT z.m 10) := by rw [HU10.out, opT_yes HT.out.symm]
      have hr := (HMAY.out.1.each 10 (by decide)).1 HT.out.symm
      have hn10 : z.n ≤ 200 := by have el := HN.out.2.2.2; simp only [rightF, Mx.m] at hr; omega
      obtain ⟨D, hD⟩ : ∃ s, s = hexS z.l := ⟨_, rfl⟩
      have hDs : D.size ≤ 400 := by rw [hD, sizeH9, HN.out.2.2.2]; omega
      have ck : ∀ W, Below w.heap.size w W → Calls Tryz.prog 76 #[.slice z.A z.n z.c] W (fun e w' => e = .returned (.string D) ∧ Below W.heap.size W w') := fun W hbW => by rw [hD]; exact (rhex_any z.A z.n z.c z.l B W (HZ.out W hbW).bs (by omega)).mono fun e w' hh9 => ⟨hh9.1, drawn_below hh9.2⟩
      have hC : txt U9 ++ (⟨#[32, 120]⟩ : ByteArray) ++ D = txt U10 := by rw [hD, e]; exact x_txt _ _
      have hUs : (txt U9).size ≤ 20000010 := by rw [txt_size]; omega
      generalize txt U9 = TU at *
      have HC := hide hC
      have j28 := S9.at_.cells.2.2.2.2.2.2.2.2.2.2.2.2.2.2.2.2.2.2.2.2.2.2.2.2.2.2.2.2
      have lz := S9.at_.lt
      clear hC hD e hr
      go_wp2_with fail
      refine (ck _ S9.bl).mono ?_
      rintro e W1 ⟨rfl, hbl⟩
      have S' := S9.later hbl
      clear ck hbl j28 lz S9
      go_wp2_with fail
      go_meet
      exact ⟨by rw [HC.out], S'⟩
  case rest =>
  obtain ⟨hs3, S10⟩ := hcut
  subst hs3
  obtain ⟨V10, hwc⟩ : ∃ x, x = wc := ⟨_, rfl⟩
  subst hwc
  clear S9 hlen9 HT H_l
  have hfin : U10 = L := by
    rw [HU10.out, HU9.out, HU8.out, HU7.out, HU6.out, HU5.out, HU4.out, HU3.out, HU2.out, HU1.out, HU0.out, HMAY.out.2.1]
    unfold textM
    rw [HMAY.out.2.2.2.1]
    simp only [List.append_assoc]
  have hbl := S10.bl
  rw [hfin]
  clear S10
  go_wp2
  go_ret
  exact ⟨rfl, hbl⟩
end Go.Proofs.YtjmkecaljkcoiaaGreatDoor
