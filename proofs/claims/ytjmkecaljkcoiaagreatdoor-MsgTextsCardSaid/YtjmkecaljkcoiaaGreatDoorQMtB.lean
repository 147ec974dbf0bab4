import Derived.Test.YtjmkecaljkcoiaaGreatDoorQLaidP
import Derived.Test.YtjmkecaljkcoiaaGreatDoorQMsg7
namespace Go.Proofs.YtjmkecaljkcoiaaGreatDoor
open Go.RowKit Go.Maps Go.Lib
set_option linter.unusedVariables false
set_option linter.unusedSimpArgs false
theorem one_txt (c : UInt8) (l : List UInt8) : (⟨#[c]⟩ : ByteArray) ++ txt l = txt (c :: l) := by
  unfold txt
  apply ByteArray.ext
  apply Array.toList_inj.1
  simp [ByteArray.data_append]
theorem in_txt (l : List UInt8) : (⟨#[91]⟩ : ByteArray) ++ txt l ++ (⟨#[93]⟩ : ByteArray) = txt (91 :: (l ++ [93])) := by
  unfold txt
  apply ByteArray.ext
  apply Array.toList_inj.1
  simp [ByteArray.data_append]
theorem textL_len {y : Cm} (h : MayC y) : (textL y).length ≤ 1000100 := by
  unfold textL
  split
  · next h2 =>
    have h1 := pidT_len y.p.i y.p.k y.p.hi y.p.hk
    have hs := h.short
    rcases h.but with ⟨h0, _⟩ | ⟨_, _, b2, b3, _⟩ | ⟨h0, _⟩
    · omega
    · have e1 := nDigits_20 y.num (by have := b2.2; omega)
      have e2 := nDigits_20 y.vn (by have := b3.2; omega)
      have e3 := hexL_len y.d
      simp only [List.length_append, List.length_cons, List.length_nil]
      omega
    · omega
  · split
    · next h3 =>
      rcases h.but with ⟨h0, h1⟩ | ⟨h0, _⟩ | ⟨_, h1, _⟩
      · rw [h1] at h3; exact absurd h3 (by decide)
      · omega
      · have := printL_len h1
        simp only [List.length_append, List.length_cons, List.length_nil]
        omega
    · decide
theorem op_len {m : Ms} (h : MayM m) (i : Nat) (hi : i < 11) (h6 : i ≠ 6) (hv : m.view < 18446744073709551616) (hs : m.slot < 18446744073709551616) (hn : m.num < 18446744073709551616) : (opT m i).length ≤ 2000000 := by
  unfold opT
  cases hb : hasF m.kind m.has i
  · exact Nat.zero_le _
  · have hr := (h.each i hi).1 hb
    have hbl : ∀ b : Bl, (balT b).length ≤ 100 := fun b => by
      have h1 := nDigits_20 b.r (by have := b.hr; omega)
      have h2 := pidT_len b.p.i b.p.k b.p.hi b.p.hk
      unfold balT
      simp only [List.length_append, List.length_cons]
      omega
    show (32 :: partT m i).length ≤ _
    have : i = 0 ∨ i = 1 ∨ i = 2 ∨ i = 3 ∨ i = 4 ∨ i = 5 ∨ i = 7 ∨ i = 8 ∨ i = 9 ∨ i = 10 := by omega
    rcases this with rfl | rfl | rfl | rfl | rfl | rfl | rfl | rfl | rfl | rfl
    · have := pidT_len m.who.i m.who.k m.who.hi m.who.hk
      show (pidT m.who.i m.who.k).length + 1 ≤ _
      omega
    · have := nDigits_20 m.view hv
      show (decDigits m.view).length + 1 + 1 ≤ _
      omega
    · have := nDigits_20 m.slot hs
      show (decDigits m.slot).length + 1 + 1 ≤ _
      omega
    · have := hbl m.b
      show (balT m.b).length + 1 + 1 ≤ _
      omega
    · have := nDigits_20 m.num hn
      show (decDigits m.num).length + 1 + 1 ≤ _
      omega
    · have hh : 0 ≤ m.hops ∧ m.hops ≤ 4 := hr
      have := nDigits_20 m.hops.toNat (by omega)
      show (decDigits m.hops.toNat).length + 1 + 1 ≤ _
      omega
    · have := hbl m.a
      show (balT m.a).length + 1 + 1 ≤ _
      omega
    · have := textL_len (y := m.c) hr
      show (textL m.c ++ [93]).length + 1 + 1 ≤ _
      rw [List.length_append]
      simp only [List.length_cons, List.length_nil]
      omega
    · have := printL_len (v := m.v) hr
      show (printL m.v ++ [93]).length + 1 + 1 ≤ _
      rw [List.length_append]
      simp only [List.length_cons, List.length_nil]
      omega
    · have hh : m.d.length ≤ 200 := hr
      have := hexL_len m.d
      show (hexL m.d).length + 1 + 1 ≤ _
      omega
theorem word_len : ∀ k, k < 15 → (wordL k).length ≤ 10 := by decide
structure TxS (w : World) (hb tb q : Nat) (z : Mx) (U : List UInt8) (W : World) : Prop where
  at_ : MAt10 W w.heap.size z
  has : W.cell? ⟨hb, 0, none⟩ = some (.int .u16 q)
  tx : StAt W tb (txt U)
  bl : Below w.heap.size w W
  h0 : w.heap.size < hb
  h1 : hb < tb
section
variable {w W W' : World} {hb tb q : Nat} {z : Mx} {U P : List UInt8}
theorem TxS.later (h : TxS w hb tb q z U W) (hbl : Below W.heap.size W W') : TxS w hb tb q z U W' :=
  ⟨h.at_.later hbl, (hbl.cell (p := ⟨hb, 0, none⟩) (by have := h.tx.lt; have := h.h1; show hb < _; omega)).trans h.has, h.tx.later hbl, h.bl.trans (hbl.mono h.bl.size), h.h0, h.h1⟩
theorem TxS.tell (h : TxS w hb tb q z U W) (t : Bool) (i : Nat) (ht : t = hasF z.m.kind z.m.has i) (he : W' = if t then W.setCell ⟨tb, 0, none⟩ (.string (txt (U ++ (32 :: partT z.m i)))) else W) : TxS w hb tb q z (U ++ opT z.m i) W' := by
  have h0 := h.h0
  have h1 := h.h1
  unfold opT
  rw [← ht]
  cases t
  · rw [he, if_neg (by decide), if_neg (by decide), List.append_nil]
    exact h
  · rw [he, if_pos rfl, if_pos rfl]
    have hs : Below w.heap.size w (W.setCell ⟨tb, 0, none⟩ (.string (txt (U ++ (32 :: partT z.m i))))) := h.bl.setCell (p := ⟨tb, 0, none⟩) (by show w.heap.size ≤ tb; omega) _
    refine ⟨MAt10.far h.at_ (a := ⟨tb, 0, none⟩) _ (by show w.heap.size ≠ tb; omega), ?_, h.tx.set _, hs, h0, h1⟩
    rw [World.cell?_setCell_other _ _ _ _ (fun e => by have := congrArg Addr.block e; simp only at this; omega)]
    exact h.has
end
set_option maxRecDepth 100000 in
set_option maxHeartbeats 8000000 in
theorem mtext_any (z : Mx) (B : Nat) (w : World) (L : List UInt8) (h : MxIn w B z) (hs : MSmall z) (hB : B ≤ w.heap.size) (hL : TxM z.m L) (hK : Kinds w) (hW : Words w) (hP : Pows w) :
    Calls Tryz.prog 21 #[.agg #[.int .i64 z.kind, .int .u16 z.who.i, .int .u32 z.who.k, .int .u64 z.view, .int .u64 z.slot, .int .u64 z.num, .int .i64 z.hops, .int .u32 z.b.r, .int .u16 z.b.p.i, .int .u32 z.b.p.k, .int .u32 z.a.r, .int .u16 z.a.p.i, .int .u32 z.a.p.k, .bool z.has, .int .i64 z.y.kind, .int .u16 z.y.p.i, .int .u32 z.y.p.k, .int .u64 z.y.num, .int .u64 z.y.vn, .slice z.y.A z.y.n z.y.c, .int .u64 z.y.x.id, .slice z.y.x.A z.y.x.m z.y.x.c, .slice z.y.x.B z.y.x.d z.y.x.e, .slice z.y.x.C z.y.x.f z.y.x.g, .int .u64 z.x.id, .slice z.x.A z.x.m z.x.c, .slice z.x.B z.x.d z.x.e, .slice z.x.C z.x.f z.x.g, .slice z.A z.n z.c]] w fun e w' => e = .returned (.string (txt L)) ∧ Below w.heap.size w w' := by
  have hbz : Below w.heap.size w (w.alloc (.cells #[.int .i64 z.kind, .int .u16 z.who.i, .int .u32 z.who.k, .int .u64 z.view, .int .u64 z.slot, .int .u64 z.num, .int .i64 z.hops, .int .u32 z.b.r, .int .u16 z.b.p.i, .int .u32 z.b.p.k, .int .u32 z.a.r, .int .u16 z.a.p.i, .int .u32 z.a.p.k, .bool z.has, .int .i64 z.y.kind, .int .u16 z.y.p.i, .int .u32 z.y.p.k, .int .u64 z.y.num, .int .u64 z.y.vn, .slice z.y.A z.y.n z.y.c, .int .u64 z.y.x.id, .slice z.y.x.A z.y.x.m z.y.x.c, .slice z.y.x.B z.y.x.d z.y.x.e, .slice z.y.x.C z.y.x.f z.y.x.g, .int .u64 z.x.id, .slice z.x.A z.x.m z.x.c, .slice z.x.B z.x.d z.x.e, .slice z.x.C z.x.f z.x.g, .slice z.A z.n z.c] 50)) := (Below.refl _ _).alloc (Nat.le_refl _) _
  have v0 := MAt10.mk_ w z
  have ZIN := fun W (hb : Below w.heap.size w W) => h.below (hb.mono hB)
  have KIN := fun W (hb : Below w.heap.size w W) => hK.later hb
  have WIN := fun W (hb : Below w.heap.size w W) => hW.later hb
  have PIN := fun W (hb : Below w.heap.size w W) => hP.below hb
  have HZ := hide (And.intro ZIN (And.intro KIN (And.intro WIN PIN)))
  have HS := hide hs
  have HN := hide (And.intro h.hv (And.intro h.hs (And.intro h.hn h.bs.len)))
  clear h hs hK hW hP ZIN KIN WIN PIN
  generalize hw1 : w.alloc (.cells #[.int .i64 z.kind, .int .u16 z.who.i, .int .u32 z.who.k, .int .u64 z.view, .int .u64 z.slot, .int .u64 z.num, .int .i64 z.hops, .int .u32 z.b.r, .int .u16 z.b.p.i, .int .u32 z.b.p.k, .int .u32 z.a.r, .int .u16 z.a.p.i, .int .u32 z.a.p.k, .bool z.has, .int .i64 z.y.kind, .int .u16 z.y.p.i, .int .u32 z.y.p.k, .int .u64 z.y.num, .int .u64 z.y.vn, .slice z.y.A z.y.n z.y.c, .int .u64 z.y.x.id, .slice z.y.x.A z.y.x.m z.y.x.c, .slice z.y.x.B z.y.x.d z.y.x.e, .slice z.y.x.C z.y.x.f z.y.x.g, .int .u64 z.x.id, .slice z.x.A z.x.m z.x.c, .slice z.x.B z.x.d z.x.e, .slice z.x.C z.x.f z.x.g, .slice z.A z.n z.c] 50) = w1 at *
  by_cases hmay : MayM z.m
  case neg =>
    have hl : L = [63] := by
      rcases hL with ⟨e, _⟩ | ⟨_, e⟩
      · exact absurd e hmay
      · exact e
    subst hl
    have ck : Calls Tryz.prog 52 #[.agg #[.int .i64 z.kind, .int .u16 z.who.i, .int .u32 z.who.k, .int .u64 z.view, .int .u64 z.slot, .int .u64 z.num, .int .i64 z.hops, .int .u32 z.b.r, .int .u16 z.b.p.i, .int .u32 z.b.p.k, .int .u32 z.a.r, .int .u16 z.a.p.i, .int .u32 z.a.p.k, .bool z.has, .int .i64 z.y.kind, .int .u16 z.y.p.i, .int .u32 z.y.p.k, .int .u64 z.y.num, .int .u64 z.y.vn, .slice z.y.A z.y.n z.y.c, .int .u64 z.y.x.id, .slice z.y.x.A z.y.x.m z.y.x.c, .slice z.y.x.B z.y.x.d z.y.x.e, .slice z.y.x.C z.y.x.f z.y.x.g, .int .u64 z.x.id, .slice z.x.A z.x.m z.x.c, .slice z.x.B z.x.d z.x.e, .slice z.x.C z.x.f z.x.g, .slice z.A z.n z.c]] w1 (fun e w' => e = .returned (.int .i64 1) ∧ Below w1.heap.size w1 w') := check10_any z B w1 false (HZ.out.1 w1 hbz) HS.out (Nat.le_trans hB hbz.size) (HZ.out.2.1 w1 hbz) ⟨fun e => (by cases e), fun e => absurd e hmay⟩
    clear hmay hL
    go_enter Tryz.func21, Tryz.ntmps21
    go_wp2_with (refine wpList_load_msg z w.heap.size rfl (.tmp 1) rfl rfl v0 ?_)
    refine ck.mono ?_
    rintro e w2 ⟨rfl, hb⟩
    have hb2 := hbz.trans (hb.mono hbz.size)
    clear hw1 v0 hb hbz ck
    go_wp2
    go_ret
    exact ⟨rfl, hb2⟩
  have hl : L = textM z.m := by
    rcases hL with ⟨_, e⟩ | ⟨e, _⟩
    · exact e
    · exact absurd hmay e
  have ck : Calls Tryz.prog 52 #[.agg #[.int .i64 z.kind, .int .u16 z.who.i, .int .u32 z.who.k, .int .u64 z.view, .int .u64 z.slot, .int .u64 z.num, .int .i64 z.hops, .int .u32 z.b.r, .int .u16 z.b.p.i, .int .u32 z.b.p.k, .int .u32 z.a.r, .int .u16 z.a.p.i, .int .u32 z.a.p.k, .bool z.has, .int .i64 z.y.kind, .int .u16 z.y.p.i, .int .u32 z.y.p.k, .int .u64 z.y.num, .int .u64 z.y.vn, .slice z.y.A z.y.n z.y.c, .int .u64 z.y.x.id, .slice z.y.x.A z.y.x.m z.y.x.c, .slice z.y.x.B z.y.x.d z.y.x.e, .slice z.y.x.C z.y.x.f z.y.x.g, .int .u64 z.x.id, .slice z.x.A z.x.m z.x.c, .slice z.x.B z.x.d z.x.e, .slice z.x.C z.x.f z.x.g, .slice z.A z.n z.c]] w1 (fun e w' => e = .returned (.int .i64 0) ∧ Below w1.heap.size w1 w') := check10_any z B w1 true (HZ.out.1 w1 hbz) HS.out (Nat.le_trans hB hbz.size) (HZ.out.2.1 w1 hbz) ⟨fun _ => hmay, fun _ => rfl⟩
  have hk := hmay.kind
  obtain ⟨kk, hkk⟩ := Int.eq_ofNat_of_zero_le (show 0 ≤ z.kind by have := hk.1; simp only [Mx.m] at this; omega)
  have hk14 : kk < 15 := by have := hk.2; simp only [Mx.m] at this; omega
  have hkn : z.m.kind.toNat = kk := by simp only [Mx.m]; omega
  have hop := fun i hi h6 => op_len hmay i hi h6 HN.out.1 HN.out.2.1 HN.out.2.2.1
  have HMAY := hide (And.intro hmay (And.intro hl (And.intro hkk (And.intro hkn hop))))
  clear hmay hL hl hk hkk hkn hop
  go_enter Tryz.func21, Tryz.ntmps21
  go_wp2_with (refine wpList_load_msg z w.heap.size rfl (.tmp 1) rfl rfl v0 ?_)
  refine ck.mono ?_
  rintro e w2 ⟨rfl, hb⟩
  have hb2 := hbz.trans (hb.mono hbz.size)
  have v2 := v0.later hb
  have cf := fieldsOf_any z w2 (HZ.out.2.1 w2 hb2)
  obtain ⟨q, hq⟩ : ∃ q, q = bitsM z.kind z.has := ⟨_, rfl⟩
  have hq1 : q < 2048 := by rw [hq]; exact bitsM_lt _ _
  rw [← hq] at cf
  have HQ := hide hq
  clear ck hw1 v0 hb hbz hq
  go_wp2_with (refine wpList_load_msg z w.heap.size rfl (.tmp 1) rfl rfl v2 ?_)
  refine cf.mono ?_
  rintro e w3 ⟨rfl, hb⟩
  have hb3 := hb2.trans (hb.mono hb2.size)
  have v3 := v2.later hb
  have l3 := v3.lt
  have j0 := v3.cells.1
  rw [HMAY.out.2.2.1] at j0
  have kc := (HZ.out.2.2.1 w3 hb3) kk hk14
  have gl := (HZ.out.2.2.1 w3 hb3).lt
  have hi0 : (0 : Int) ≤ (kk : Int) := by omega
  have hi1 : (kk : Int) < 15 := by omega
  obtain ⟨j0, j1, j2, j3, j4, j5, j6, j7, j8, j9, j10, j11, j12, j13, j14, j15, j16, j17, j18, j19, j20, j21, j22, j23, j24, j25, j26, j27, j28⟩ := v3.cells
  have S4 : TxS w w3.heap.size (w3.heap.size + 1) q z (wordL kk) ((w3.alloc (.cells #[.int .u16 q] 108)).alloc (.cells #[.string (txt (wordL kk))] 9)) :=
    ⟨(v3.alloc _).alloc _, by go_simp, by have e : (w3.alloc (.cells #[.int .u16 q] 108)).heap.size = w3.heap.size + 1 := by simp
                                          rw [← e]; exact heap_alloc_new _ _, (hb3.alloc hb3.size _).alloc (by simp; omega) _, l3, Nat.lt_succ_self _⟩
  obtain ⟨tv, htv⟩ := bool_of (MayV z.x.v)
  have cp := vprint_any z.x B ((w3.alloc (.cells #[.int .u16 q] 108)).alloc (.cells #[.string (txt (wordL kk))] 9)) tv (HZ.out.1 _ S4.bl).vw HS.out.v (Nat.le_trans hB S4.bl.size) htv (HZ.out.2.2.2 _ S4.bl)
  obtain ⟨PV, hPV⟩ : ∃ s, s = printS z.x.v tv := ⟨_, rfl⟩
  have hPVs : PV.size ≤ 1000000 := by
    rw [hPV]
    unfold printS
    cases tv
    · show (⟨#[]⟩ : ByteArray).size ≤ _
      decide
    · show (txt (printL z.x.v)).size ≤ _
      rw [txt_size]
      exact printL_len (htv.1 rfl)
  rw [← hPV] at cp
  have HPV := hide (And.intro hPV htv)
  obtain ⟨hb, hhb⟩ : ∃ b, b = w3.heap.size := ⟨_, rfl⟩
  obtain ⟨U0, hU0⟩ : ∃ U, U = wordL kk := ⟨_, rfl⟩
  have hlen0 : U0.length ≤ 10 := by rw [hU0]; exact word_len kk hk14
  clear cf v2 hb2 hPV htv
  go_wp2_with fail
  rw [← hU0] at S4 cp ⊢
  rw [← hhb] at S4 ⊢
  have HU0 := hide hU0
  clear j0 j1 j2 j3 j4 j5 j6 j7 j8 j9 j10 j11 j12 j13 j14 j15 j16 j17 j18 j19 j20 j21 j22 j23 j24 j25 j26 j27 j28 kc gl hi0 hi1 v3 hb3 hU0
  generalize ((w3.alloc (.cells #[.int .u16 q] 108)).alloc (.cells #[.string (txt U0)] 9)) = w4 at *
  clear hhb l3
  refine cp.mono ?_
  rintro e V0 ⟨rfl, hb'⟩
  have S0 := S4.later hb'
  clear S4 cp hb'
  -- the field 0
  have PW := HZ.out.2.2.2 V0 S0.bl
  obtain ⟨j0, j1, j2, j3, j4, j5, j6, j7, j8, j9, j10, j11, j12, j13, j14, j15, j16, j17, j18, j19, j20, j21, j22, j23, j24, j25, j26, j27, j28⟩ := S0.at_.cells
  obtain ⟨D, hD⟩ : ∃ s, s = pidS z.who.i z.who.k := ⟨_, rfl⟩
  have hDs : D.size ≤ 16 := by rw [hD]; exact sizeP9 z.who
  have ck := print_any z.who.i z.who.k V0 z.who.hi z.who.hk PW
  rw [← hD] at ck
  obtain ⟨t, ht⟩ : ∃ t, t = hasF z.m.kind z.m.has 0 := ⟨_, rfl⟩
  have HT := hide ht
  have hss : t = true → D = txt (partT z.m 0) := fun _ => hD
  have hsz : D.size ≤ 100000000 := by omega
  have hUl := hlen0
  have CT := fun W1 (hbl : Below V0.heap.size V0 W1) => (tell_any hb (hb + 1) q 0 t U0 (partT z.m 0) (D) W1 hq1 (by decide) (ht.trans (by rw [HQ.out]; rfl)) hss hsz (by omega) (S0.later hbl).has (S0.later hbl).tx)
  have CT' : ∀ W1, Below V0.heap.size V0 W1 → Calls Tryz.prog 66 #[.int .u16 1, .string (D), .pointer (some ⟨hb, 0, none⟩), .pointer (some ⟨hb + 1, 0, none⟩)] W1 (fun e w' => e = .returned (.tuple #[]) ∧ w' = (if t then W1.setCell ⟨hb + 1, 0, none⟩ (.string (txt (U0 ++ (32 :: partT z.m 0)))) else W1)) := CT
  obtain ⟨U1, hU1⟩ : ∃ U, U = U0 ++ opT z.m 0 := ⟨_, rfl⟩
  have hlen1 : U1.length ≤ 2000010 := by rw [hU1, List.length_append]; have := HMAY.out.2.2.2.2 0 (by decide) (by decide); omega
  have HU1 := hide hU1
  clear hU1 CT hss ht
  go_wp2_with fail
  refine ck.mono ?_
  rintro e W1 ⟨rfl, hbl⟩
  have S' := S0.later hbl
  have ct := CT' W1 hbl
  clear ck CT' hbl PW j0 j1 j2 j3 j4 j5 j6 j7 j8 j9 j10 j11 j12 j13 j14 j15 j16 j17 j18 j19 j20 j21 j22 j23 j24 j25 j26 j27 j28 S0 hD
  go_wp2_with fail
  refine ct.mono ?_
  rintro e V1 ⟨rfl, hw5⟩
  have S1 := S'.tell t 0 HT.out hw5
  rw [← HU1.out] at S1
  clear ct S' hw5 HT hUl hlen0
  -- the field 1
  have PW := HZ.out.2.2.2 V1 S1.bl
  obtain ⟨j0, j1, j2, j3, j4, j5, j6, j7, j8, j9, j10, j11, j12, j13, j14, j15, j16, j17, j18, j19, j20, j21, j22, j23, j24, j25, j26, j27, j28⟩ := S1.at_.cells
  obtain ⟨D, hD⟩ : ∃ s, s = decS z.view := ⟨_, rfl⟩
  have hDs : D.size ≤ 20 := by rw [hD]; exact sizeD9 _ HN.out.1
  have ck := mdecimal_any z.view V1 HN.out.1 PW
  rw [← hD] at ck
  obtain ⟨t, ht⟩ : ∃ t, t = hasF z.m.kind z.m.has 1 := ⟨_, rfl⟩
  have HT := hide ht
  have hss : t = true → (⟨#[118]⟩ : ByteArray) ++ D = txt (partT z.m 1) := fun _ => by rw [hD]; exact one_txt 118 _
  have hsz : ((⟨#[118]⟩ : ByteArray) ++ D).size ≤ 100000000 := by simp only [ByteArray.size_append]; simp only [ByteArray.size, List.size_toArray, List.length_cons, List.length_nil] at *; omega
  have hUl := hlen1
  have CT := fun W1 (hbl : Below V1.heap.size V1 W1) => (tell_any hb (hb + 1) q 1 t U1 (partT z.m 1) ((⟨#[118]⟩ : ByteArray) ++ D) W1 hq1 (by decide) (ht.trans (by rw [HQ.out]; rfl)) hss hsz (by omega) (S1.later hbl).has (S1.later hbl).tx)
  have CT' : ∀ W1, Below V1.heap.size V1 W1 → Calls Tryz.prog 66 #[.int .u16 2, .string ((⟨#[118]⟩ : ByteArray) ++ D), .pointer (some ⟨hb, 0, none⟩), .pointer (some ⟨hb + 1, 0, none⟩)] W1 (fun e w' => e = .returned (.tuple #[]) ∧ w' = (if t then W1.setCell ⟨hb + 1, 0, none⟩ (.string (txt (U1 ++ (32 :: partT z.m 1)))) else W1)) := CT
  obtain ⟨U2, hU2⟩ : ∃ U, U = U1 ++ opT z.m 1 := ⟨_, rfl⟩
  have hlen2 : U2.length ≤ 4000010 := by rw [hU2, List.length_append]; have := HMAY.out.2.2.2.2 1 (by decide) (by decide); omega
  have HU2 := hide hU2
  clear hU2 CT hss ht
  go_wp2_with fail
  refine ck.mono ?_
  rintro e W1 ⟨rfl, hbl⟩
  have S' := S1.later hbl
  have ct := CT' W1 hbl
  clear ck CT' hbl PW j0 j1 j2 j3 j4 j5 j6 j7 j8 j9 j10 j11 j12 j13 j14 j15 j16 j17 j18 j19 j20 j21 j22 j23 j24 j25 j26 j27 j28 S1 hD
  go_wp2_with fail
  refine ct.mono ?_
  rintro e V2 ⟨rfl, hw5⟩
  have S2 := S'.tell t 1 HT.out hw5
  rw [← HU2.out] at S2
  clear ct S' hw5 HT hUl hlen1
  -- the field 2
  have PW := HZ.out.2.2.2 V2 S2.bl
  obtain ⟨j0, j1, j2, j3, j4, j5, j6, j7, j8, j9, j10, j11, j12, j13, j14, j15, j16, j17, j18, j19, j20, j21, j22, j23, j24, j25, j26, j27, j28⟩ := S2.at_.cells
  obtain ⟨D, hD⟩ : ∃ s, s = decS z.slot := ⟨_, rfl⟩
  have hDs : D.size ≤ 20 := by rw [hD]; exact sizeD9 _ HN.out.2.1
  have ck := mdecimal_any z.slot V2 HN.out.2.1 PW
  rw [← hD] at ck
  obtain ⟨t, ht⟩ : ∃ t, t = hasF z.m.kind z.m.has 2 := ⟨_, rfl⟩
  have HT := hide ht
  have hss : t = true → (⟨#[115]⟩ : ByteArray) ++ D = txt (partT z.m 2) := fun _ => by rw [hD]; exact one_txt 115 _
  have hsz : ((⟨#[115]⟩ : ByteArray) ++ D).size ≤ 100000000 := by simp only [ByteArray.size_append]; simp only [ByteArray.size, List.size_toArray, List.length_cons, List.length_nil] at *; omega
  have hUl := hlen2
  have CT := fun W1 (hbl : Below V2.heap.size V2 W1) => (tell_any hb (hb + 1) q 2 t U2 (partT z.m 2) ((⟨#[115]⟩ : ByteArray) ++ D) W1 hq1 (by decide) (ht.trans (by rw [HQ.out]; rfl)) hss hsz (by omega) (S2.later hbl).has (S2.later hbl).tx)
  have CT' : ∀ W1, Below V2.heap.size V2 W1 → Calls Tryz.prog 66 #[.int .u16 4, .string ((⟨#[115]⟩ : ByteArray) ++ D), .pointer (some ⟨hb, 0, none⟩), .pointer (some ⟨hb + 1, 0, none⟩)] W1 (fun e w' => e = .returned (.tuple #[]) ∧ w' = (if t then W1.setCell ⟨hb + 1, 0, none⟩ (.string (txt (U2 ++ (32 :: partT z.m 2)))) else W1)) := CT
  obtain ⟨U3, hU3⟩ : ∃ U, U = U2 ++ opT z.m 2 := ⟨_, rfl⟩
  have hlen3 : U3.length ≤ 6000010 := by rw [hU3, List.length_append]; have := HMAY.out.2.2.2.2 2 (by decide) (by decide); omega
  have HU3 := hide hU3
  clear hU3 CT hss ht
  go_wp2_with fail
  refine ck.mono ?_
  rintro e W1 ⟨rfl, hbl⟩
  have S' := S2.later hbl
  have ct := CT' W1 hbl
  clear ck CT' hbl PW j0 j1 j2 j3 j4 j5 j6 j7 j8 j9 j10 j11 j12 j13 j14 j15 j16 j17 j18 j19 j20 j21 j22 j23 j24 j25 j26 j27 j28 S2 hD
  go_wp2_with fail
  refine ct.mono ?_
  rintro e V3 ⟨rfl, hw5⟩
  have S3 := S'.tell t 2 HT.out hw5
  rw [← HU3.out] at S3
  clear ct S' hw5 HT hUl hlen2
  -- the field 3
  have PW := HZ.out.2.2.2 V3 S3.bl
  obtain ⟨j0, j1, j2, j3, j4, j5, j6, j7, j8, j9, j10, j11, j12, j13, j14, j15, j16, j17, j18, j19, j20, j21, j22, j23, j24, j25, j26, j27, j28⟩ := S3.at_.cells
  obtain ⟨D, hD⟩ : ∃ s, s = txt (balT z.b) := ⟨_, rfl⟩
  have hDs : D.size ≤ 100 := by
    rw [hD, txt_size]
    have h1 := nDigits_20 z.b.r (by have := z.b.hr; omega)
    have h2 := pidT_len z.b.p.i z.b.p.k z.b.p.hi z.b.p.hk
    unfold balT
    simp only [List.length_append, List.length_cons]
    omega
  have ck := mballot_any z.b V3 PW
  rw [← hD] at ck
  obtain ⟨t, ht⟩ : ∃ t, t = hasF z.m.kind z.m.has 3 := ⟨_, rfl⟩
  have HT := hide ht
  have hss : t = true → (⟨#[98]⟩ : ByteArray) ++ D = txt (partT z.m 3) := fun _ => by rw [hD]; exact one_txt 98 _
  have hsz : ((⟨#[98]⟩ : ByteArray) ++ D).size ≤ 100000000 := by simp only [ByteArray.size_append]; simp only [ByteArray.size, List.size_toArray, List.length_cons, List.length_nil] at *; omega
  have hUl := hlen3
  have CT := fun W1 (hbl : Below V3.heap.size V3 W1) => (tell_any hb (hb + 1) q 3 t U3 (partT z.m 3) ((⟨#[98]⟩ : ByteArray) ++ D) W1 hq1 (by decide) (ht.trans (by rw [HQ.out]; rfl)) hss hsz (by omega) (S3.later hbl).has (S3.later hbl).tx)
  have CT' : ∀ W1, Below V3.heap.size V3 W1 → Calls Tryz.prog 66 #[.int .u16 8, .string ((⟨#[98]⟩ : ByteArray) ++ D), .pointer (some ⟨hb, 0, none⟩), .pointer (some ⟨hb + 1, 0, none⟩)] W1 (fun e w' => e = .returned (.tuple #[]) ∧ w' = (if t then W1.setCell ⟨hb + 1, 0, none⟩ (.string (txt (U3 ++ (32 :: partT z.m 3)))) else W1)) := CT
  obtain ⟨U4, hU4⟩ : ∃ U, U = U3 ++ opT z.m 3 := ⟨_, rfl⟩
  have hlen4 : U4.length ≤ 8000010 := by rw [hU4, List.length_append]; have := HMAY.out.2.2.2.2 3 (by decide) (by decide); omega
  have HU4 := hide hU4
  clear hU4 CT hss ht
  go_wp2_with fail
  refine ck.mono ?_
  rintro e W1 ⟨rfl, hbl⟩
  have S' := S3.later hbl
  have ct := CT' W1 hbl
  clear ck CT' hbl PW j0 j1 j2 j3 j4 j5 j6 j7 j8 j9 j10 j11 j12 j13 j14 j15 j16 j17 j18 j19 j20 j21 j22 j23 j24 j25 j26 j27 j28 S3 hD
  go_wp2_with fail
  refine ct.mono ?_
  rintro e V4 ⟨rfl, hw5⟩
  have S4 := S'.tell t 3 HT.out hw5
  rw [← HU4.out] at S4
  clear ct S' hw5 HT hUl hlen3
  -- the field 4
  have PW := HZ.out.2.2.2 V4 S4.bl
  obtain ⟨j0, j1, j2, j3, j4, j5, j6, j7, j8, j9, j10, j11, j12, j13, j14, j15, j16, j17, j18, j19, j20, j21, j22, j23, j24, j25, j26, j27, j28⟩ := S4.at_.cells
  obtain ⟨D, hD⟩ : ∃ s, s = decS z.num := ⟨_, rfl⟩
  have hDs : D.size ≤ 20 := by rw [hD]; exact sizeD9 _ HN.out.2.2.1
  have ck := mdecimal_any z.num V4 HN.out.2.2.1 PW
  rw [← hD] at ck
  obtain ⟨t, ht⟩ : ∃ t, t = hasF z.m.kind z.m.has 4 := ⟨_, rfl⟩
  have HT := hide ht
  have hss : t = true → (⟨#[110]⟩ : ByteArray) ++ D = txt (partT z.m 4) := fun _ => by rw [hD]; exact one_txt 110 _
  have hsz : ((⟨#[110]⟩ : ByteArray) ++ D).size ≤ 100000000 := by simp only [ByteArray.size_append]; simp only [ByteArray.size, List.size_toArray, List.length_cons, List.length_nil] at *; omega
  have hUl := hlen4
  have CT := fun W1 (hbl : Below V4.heap.size V4 W1) => (tell_any hb (hb + 1) q 4 t U4 (partT z.m 4) ((⟨#[110]⟩ : ByteArray) ++ D) W1 hq1 (by decide) (ht.trans (by rw [HQ.out]; rfl)) hss hsz (by omega) (S4.later hbl).has (S4.later hbl).tx)
  have CT' : ∀ W1, Below V4.heap.size V4 W1 → Calls Tryz.prog 66 #[.int .u16 16, .string ((⟨#[110]⟩ : ByteArray) ++ D), .pointer (some ⟨hb, 0, none⟩), .pointer (some ⟨hb + 1, 0, none⟩)] W1 (fun e w' => e = .returned (.tuple #[]) ∧ w' = (if t then W1.setCell ⟨hb + 1, 0, none⟩ (.string (txt (U4 ++ (32 :: partT z.m 4)))) else W1)) := CT
  obtain ⟨U5, hU5⟩ : ∃ U, U = U4 ++ opT z.m 4 := ⟨_, rfl⟩
  have hlen5 : U5.length ≤ 10000010 := by rw [hU5, List.length_append]; have := HMAY.out.2.2.2.2 4 (by decide) (by decide); omega
  have HU5 := hide hU5
  clear hU5 CT hss ht
  go_wp2_with fail
  refine ck.mono ?_
  rintro e W1 ⟨rfl, hbl⟩
  have S' := S4.later hbl
  have ct := CT' W1 hbl
  clear ck CT' hbl PW j0 j1 j2 j3 j4 j5 j6 j7 j8 j9 j10 j11 j12 j13 j14 j15 j16 j17 j18 j19 j20 j21 j22 j23 j24 j25 j26 j27 j28 S4 hD
  go_wp2_with fail
  refine ct.mono ?_
  rintro e V5 ⟨rfl, hw5⟩
  have S5 := S'.tell t 4 HT.out hw5
  rw [← HU5.out] at S5
  clear ct S' hw5 HT hUl hlen4
  -- the field 5
  obtain ⟨hh, hhh, hh4⟩ : ∃ n : Nat, n = z.hops.toNat ∧ z.hops = (n : Int) ∧ n < 100 := by
    cases hb5 : hasF z.m.kind z.m.has 5
    · have e := (HMAY.out.1.each 5 (by decide)).2 hb5
      simp only [zeroF, Mx.m] at e
      exact ⟨0, by rw [e]; rfl, by rw [e]; rfl, by decide⟩
    · have e := (HMAY.out.1.each 5 (by decide)).1 hb5
      simp only [rightF, Mx.m] at e
      exact ⟨z.hops.toNat, rfl, by omega, by omega⟩
  have HHH := hide hhh
  clear hhh
  have PW := HZ.out.2.2.2 V5 S5.bl
  obtain ⟨j0, j1, j2, j3, j4, j5, j6, j7, j8, j9, j10, j11, j12, j13, j14, j15, j16, j17, j18, j19, j20, j21, j22, j23, j24, j25, j26, j27, j28⟩ := S5.at_.cells
  obtain ⟨D, hD⟩ : ∃ s, s = decS hh := ⟨_, rfl⟩
  have hDs : D.size ≤ 20 := by rw [hD]; exact sizeD9 _ (by omega)
  have ck : Calls Tryz.prog 39 #[.int .i64 z.hops] V5 (fun e w' => e = .returned (.string D) ∧ Below V5.heap.size V5 w') := by
    rw [hD, hh4.1]
    exact (Tryz.strconv_Itoa_small hh hh4.2 V5).mono fun e w' he => ⟨he.1, by rw [he.2]; exact Below.refl _ _⟩
  clear hh4
  obtain ⟨t, ht⟩ : ∃ t, t = hasF z.m.kind z.m.has 5 := ⟨_, rfl⟩
  have HT := hide ht
  have hss : t = true → (⟨#[104]⟩ : ByteArray) ++ D = txt (partT z.m 5) := fun _ => by rw [hD, HHH.out]; exact one_txt 104 _
  have hsz : ((⟨#[104]⟩ : ByteArray) ++ D).size ≤ 100000000 := by simp only [ByteArray.size_append]; simp only [ByteArray.size, List.size_toArray, List.length_cons, List.length_nil] at *; omega
  have hUl := hlen5
  have CT := fun W1 (hbl : Below V5.heap.size V5 W1) => (tell_any hb (hb + 1) q 5 t U5 (partT z.m 5) ((⟨#[104]⟩ : ByteArray) ++ D) W1 hq1 (by decide) (ht.trans (by rw [HQ.out]; rfl)) hss hsz (by omega) (S5.later hbl).has (S5.later hbl).tx)
  have CT' : ∀ W1, Below V5.heap.size V5 W1 → Calls Tryz.prog 66 #[.int .u16 32, .string ((⟨#[104]⟩ : ByteArray) ++ D), .pointer (some ⟨hb, 0, none⟩), .pointer (some ⟨hb + 1, 0, none⟩)] W1 (fun e w' => e = .returned (.tuple #[]) ∧ w' = (if t then W1.setCell ⟨hb + 1, 0, none⟩ (.string (txt (U5 ++ (32 :: partT z.m 5)))) else W1)) := CT
  obtain ⟨U6, hU6⟩ : ∃ U, U = U5 ++ opT z.m 5 := ⟨_, rfl⟩
  have hlen6 : U6.length ≤ 12000010 := by rw [hU6, List.length_append]; have := HMAY.out.2.2.2.2 5 (by decide) (by decide); omega
  have HU6 := hide hU6
  clear hU6 CT hss ht
  go_wp2_with fail
  refine ck.mono ?_
  rintro e W1 ⟨rfl, hbl⟩
  have S' := S5.later hbl
  have ct := CT' W1 hbl
  clear ck CT' hbl PW j0 j1 j2 j3 j4 j5 j6 j7 j8 j9 j10 j11 j12 j13 j14 j15 j16 j17 j18 j19 j20 j21 j22 j23 j24 j25 j26 j27 j28 S5 hD
  go_wp2_with fail
  refine ct.mono ?_
  rintro e V6 ⟨rfl, hw5⟩
  have S6 := S'.tell t 5 HT.out hw5
  rw [← HU6.out] at S6
  clear ct S' hw5 HT hUl hlen5
  -- the field 7
  have PW := HZ.out.2.2.2 V6 S6.bl
  obtain ⟨j0, j1, j2, j3, j4, j5, j6, j7, j8, j9, j10, j11, j12, j13, j14, j15, j16, j17, j18, j19, j20, j21, j22, j23, j24, j25, j26, j27, j28⟩ := S6.at_.cells
  obtain ⟨D, hD⟩ : ∃ s, s = txt (balT z.a) := ⟨_, rfl⟩
  have hDs : D.size ≤ 100 := by
    rw [hD, txt_size]
    have h1 := nDigits_20 z.a.r (by have := z.a.hr; omega)
    have h2 := pidT_len z.a.p.i z.a.p.k z.a.p.hi z.a.p.hk
    unfold balT
    simp only [List.length_append, List.length_cons]
    omega
  have ck := mballot_any z.a V6 PW
  rw [← hD] at ck
  obtain ⟨t, ht⟩ : ∃ t, t = hasF z.m.kind z.m.has 7 := ⟨_, rfl⟩
  have HT := hide ht
  have hss : t = true → (⟨#[97]⟩ : ByteArray) ++ D = txt (partT z.m 7) := fun _ => by rw [hD]; exact one_txt 97 _
  have hsz : ((⟨#[97]⟩ : ByteArray) ++ D).size ≤ 100000000 := by simp only [ByteArray.size_append]; simp only [ByteArray.size, List.size_toArray, List.length_cons, List.length_nil] at *; omega
  have hUl := hlen6
  have CT := fun W1 (hbl : Below V6.heap.size V6 W1) => (tell_any hb (hb + 1) q 7 t U6 (partT z.m 7) ((⟨#[97]⟩ : ByteArray) ++ D) W1 hq1 (by decide) (ht.trans (by rw [HQ.out]; rfl)) hss hsz (by omega) (S6.later hbl).has (S6.later hbl).tx)
  have CT' : ∀ W1, Below V6.heap.size V6 W1 → Calls Tryz.prog 66 #[.int .u16 128, .string ((⟨#[97]⟩ : ByteArray) ++ D), .pointer (some ⟨hb, 0, none⟩), .pointer (some ⟨hb + 1, 0, none⟩)] W1 (fun e w' => e = .returned (.tuple #[]) ∧ w' = (if t then W1.setCell ⟨hb + 1, 0, none⟩ (.string (txt (U6 ++ (32 :: partT z.m 7)))) else W1)) := CT
  obtain ⟨U7, hU7⟩ : ∃ U, U = U6 ++ opT z.m 7 := ⟨_, rfl⟩
  have hlen7 : U7.length ≤ 14000010 := by rw [hU7, List.length_append]; have := HMAY.out.2.2.2.2 7 (by decide) (by decide); omega
  have HU7 := hide hU7
  clear hU7 CT hss ht
  go_wp2_with fail
  refine ck.mono ?_
  rintro e W1 ⟨rfl, hbl⟩
  have S' := S6.later hbl
  have ct := CT' W1 hbl
  clear ck CT' hbl PW j0 j1 j2 j3 j4 j5 j6 j7 j8 j9 j10 j11 j12 j13 j14 j15 j16 j17 j18 j19 j20 j21 j22 j23 j24 j25 j26 j27 j28 S6 hD
  go_wp2_with fail
  refine ct.mono ?_
  rintro e V7 ⟨rfl, hw5⟩
  have S7 := S'.tell t 7 HT.out hw5
  rw [← HU7.out] at S7
  clear ct S' hw5 HT hUl hlen6
  -- the field 8
  obtain ⟨LC, hLC⟩ := TextC.some_ z.y.m
  have hLCs : (txt LC).size ≤ 1000100 := by
    rw [txt_size]
    rcases hLC with ⟨e1, e2⟩ | ⟨_, e2⟩
    · rw [e2]; exact textL_len e1
    · rw [e2]; decide
  have hLCt : hasF z.m.kind z.m.has 8 = true → LC = textL z.m.c := fun ht => by
    rcases hLC with ⟨_, e2⟩ | ⟨e1, _⟩
    · exact e2
    · exact absurd ((HMAY.out.1.each 8 (by decide)).1 ht) e1
  have HLC := hide (And.intro hLC hLCt)
  clear hLC hLCt
  have PW := HZ.out.2.2.2 V7 S7.bl
  obtain ⟨j0, j1, j2, j3, j4, j5, j6, j7, j8, j9, j10, j11, j12, j13, j14, j15, j16, j17, j18, j19, j20, j21, j22, j23, j24, j25, j26, j27, j28⟩ := S7.at_.cells
  obtain ⟨D, hD⟩ : ∃ s, s = txt LC := ⟨_, rfl⟩
  have hDs : D.size ≤ 1000100 := by rw [hD]; exact hLCs
  have ck := text_any z.y B V7 LC (HZ.out.1 V7 S7.bl).cm HS.out.c (Nat.le_trans hB S7.bl.size) HLC.out.1 PW
  rw [← hD] at ck
  obtain ⟨t, ht⟩ : ∃ t, t = hasF z.m.kind z.m.has 8 := ⟨_, rfl⟩
  have HT := hide ht
  have hss : t = true → (⟨#[91]⟩ : ByteArray) ++ D ++ (⟨#[93]⟩ : ByteArray) = txt (partT z.m 8) := fun ht => by rw [hD, HLC.out.2 (HT.out.symm.trans ht)]; exact in_txt _
  have hsz : ((⟨#[91]⟩ : ByteArray) ++ D ++ (⟨#[93]⟩ : ByteArray)).size ≤ 100000000 := by simp only [ByteArray.size_append]; simp only [ByteArray.size, List.size_toArray, List.length_cons, List.length_nil] at *; omega
  have hUl := hlen7
  have CT := fun W1 (hbl : Below V7.heap.size V7 W1) => (tell_any hb (hb + 1) q 8 t U7 (partT z.m 8) ((⟨#[91]⟩ : ByteArray) ++ D ++ (⟨#[93]⟩ : ByteArray)) W1 hq1 (by decide) (ht.trans (by rw [HQ.out]; rfl)) hss hsz (by omega) (S7.later hbl).has (S7.later hbl).tx)
  have CT' : ∀ W1, Below V7.heap.size V7 W1 → Calls Tryz.prog 66 #[.int .u16 256, .string ((⟨#[91]⟩ : ByteArray) ++ D ++ (⟨#[93]⟩ : ByteArray)), .pointer (some ⟨hb, 0, none⟩), .pointer (some ⟨hb + 1, 0, none⟩)] W1 (fun e w' => e = .returned (.tuple #[]) ∧ w' = (if t then W1.setCell ⟨hb + 1, 0, none⟩ (.string (txt (U7 ++ (32 :: partT z.m 8)))) else W1)) := CT
  obtain ⟨U8, hU8⟩ : ∃ U, U = U7 ++ opT z.m 8 := ⟨_, rfl⟩
  have hlen8 : U8.length ≤ 16000010 := by rw [hU8, List.length_append]; have := HMAY.out.2.2.2.2 8 (by decide) (by decide); omega
  have HU8 := hide hU8
  clear hU8 CT hss ht
  go_wp2_with fail
  refine ck.mono ?_
  rintro e W1 ⟨rfl, hbl⟩
  have S' := S7.later hbl
  have ct := CT' W1 hbl
  clear ck CT' hbl PW j0 j1 j2 j3 j4 j5 j6 j7 j8 j9 j10 j11 j12 j13 j14 j15 j16 j17 j18 j19 j20 j21 j22 j23 j24 j25 j26 j27 j28 S7 hD
  go_wp2_with fail
  refine ct.mono ?_
  rintro e V8 ⟨rfl, hw5⟩
  have S8 := S'.tell t 8 HT.out hw5
  rw [← HU8.out] at S8
  clear ct S' hw5 HT hUl hlen7
  -- the field 9
  have PW := HZ.out.2.2.2 V8 S8.bl
  obtain ⟨j0, j1, j2, j3, j4, j5, j6, j7, j8, j9, j10, j11, j12, j13, j14, j15, j16, j17, j18, j19, j20, j21, j22, j23, j24, j25, j26, j27, j28⟩ := S8.at_.cells
  obtain ⟨t, ht⟩ : ∃ t, t = hasF z.m.kind z.m.has 9 := ⟨_, rfl⟩
  have HT := hide ht
  have hss : t = true → (⟨#[91]⟩ : ByteArray) ++ PV ++ (⟨#[93]⟩ : ByteArray) = txt (partT z.m 9) := fun ht => by rw [HPV.out.1, HPV.out.2.2 ((HMAY.out.1.each 9 (by decide)).1 (HT.out.symm.trans ht))]; exact in_txt _
  have hsz : ((⟨#[91]⟩ : ByteArray) ++ PV ++ (⟨#[93]⟩ : ByteArray)).size ≤ 100000000 := by simp only [ByteArray.size_append]; simp only [ByteArray.size, List.size_toArray, List.length_cons, List.length_nil] at *; omega
  have hUl := hlen8
  have CT := fun W1 (hbl : Below V8.heap.size V8 W1) => (tell_any hb (hb + 1) q 9 t U8 (partT z.m 9) ((⟨#[91]⟩ : ByteArray) ++ PV ++ (⟨#[93]⟩ : ByteArray)) W1 hq1 (by decide) (ht.trans (by rw [HQ.out]; rfl)) hss hsz (by omega) (S8.later hbl).has (S8.later hbl).tx)
  have CT' : ∀ W1, Below V8.heap.size V8 W1 → Calls Tryz.prog 66 #[.int .u16 512, .string ((⟨#[91]⟩ : ByteArray) ++ PV ++ (⟨#[93]⟩ : ByteArray)), .pointer (some ⟨hb, 0, none⟩), .pointer (some ⟨hb + 1, 0, none⟩)] W1 (fun e w' => e = .returned (.tuple #[]) ∧ w' = (if t then W1.setCell ⟨hb + 1, 0, none⟩ (.string (txt (U8 ++ (32 :: partT z.m 9)))) else W1)) := CT
  obtain ⟨U9, hU9⟩ : ∃ U, U = U8 ++ opT z.m 9 := ⟨_, rfl⟩
  have hlen9 : U9.length ≤ 18000010 := by rw [hU9, List.length_append]; have := HMAY.out.2.2.2.2 9 (by decide) (by decide); omega
  have HU9 := hide hU9
  clear hU9 CT hss ht
  have S' := S8
  have ct := CT' V8 (Below.refl _ _)
  clear CT' PW j0 j1 j2 j3 j4 j5 j6 j7 j8 j9 j10 j11 j12 j13 j14 j15 j16 j17 j18 j19 j20 j21 j22 j23 j24 j25 j26 j27 j28 S8
  go_wp2_with fail
  refine ct.mono ?_
  rintro e V9 ⟨rfl, hw5⟩
  have S9 := S'.tell t 9 HT.out hw5
  rw [← HU9.out] at S9
  clear ct S' hw5 HT hUl hlen8
  -- the field 10
  have hn10 : z.n ≤ 200 := by
    have el := HN.out.2.2.2
    cases hb10 : hasF z.m.kind z.m.has 10
    · have e := (HMAY.out.1.each 10 (by decide)).2 hb10
      simp only [zeroF, Mx.m] at e
      rw [e] at el
      simp only [List.length_nil] at el
      omega
    · have e := (HMAY.out.1.each 10 (by decide)).1 hb10
      simp only [rightF, Mx.m] at e
      omega
  have PW := HZ.out.2.2.2 V9 S9.bl
  obtain ⟨j0, j1, j2, j3, j4, j5, j6, j7, j8, j9, j10, j11, j12, j13, j14, j15, j16, j17, j18, j19, j20, j21, j22, j23, j24, j25, j26, j27, j28⟩ := S9.at_.cells
  obtain ⟨D, hD⟩ : ∃ s, s = hexS z.l := ⟨_, rfl⟩
  have hDs : D.size ≤ 400 := by rw [hD, sizeH9, HN.out.2.2.2]; omega
  have ck := hex_any z.A z.n z.c z.l B V9 (HZ.out.1 V9 S9.bl).bs (Nat.le_trans hB S9.bl.size) (by omega)
  rw [show (⟨(hexL z.l).toArray⟩ : ByteArray) = D from hD.symm] at ck
  obtain ⟨t, ht⟩ : ∃ t, t = hasF z.m.kind z.m.has 10 := ⟨_, rfl⟩
  have HT := hide ht
  have hss : t = true → (⟨#[120]⟩ : ByteArray) ++ D = txt (partT z.m 10) := fun _ => by rw [hD]; exact one_txt 120 _
  have hsz : ((⟨#[120]⟩ : ByteArray) ++ D).size ≤ 100000000 := by simp only [ByteArray.size_append]; simp only [ByteArray.size, List.size_toArray, List.length_cons, List.length_nil] at *; omega
  have hUl := hlen9
  have CT := fun W1 (hbl : Below V9.heap.size V9 W1) => (tell_any hb (hb + 1) q 10 t U9 (partT z.m 10) ((⟨#[120]⟩ : ByteArray) ++ D) W1 hq1 (by decide) (ht.trans (by rw [HQ.out]; rfl)) hss hsz (by omega) (S9.later hbl).has (S9.later hbl).tx)
  have CT' : ∀ W1, Below V9.heap.size V9 W1 → Calls Tryz.prog 66 #[.int .u16 1024, .string ((⟨#[120]⟩ : ByteArray) ++ D), .pointer (some ⟨hb, 0, none⟩), .pointer (some ⟨hb + 1, 0, none⟩)] W1 (fun e w' => e = .returned (.tuple #[]) ∧ w' = (if t then W1.setCell ⟨hb + 1, 0, none⟩ (.string (txt (U9 ++ (32 :: partT z.m 10)))) else W1)) := CT
  obtain ⟨U10, hU10⟩ : ∃ U, U = U9 ++ opT z.m 10 := ⟨_, rfl⟩
  have hlen10 : U10.length ≤ 20000010 := by rw [hU10, List.length_append]; have := HMAY.out.2.2.2.2 10 (by decide) (by decide); omega
  have HU10 := hide hU10
  clear hU10 CT hss ht
  go_wp2_with fail
  refine ck.mono ?_
  rintro e W1 ⟨rfl, hbl⟩
  have S' := S9.later hbl
  have ct := CT' W1 hbl
  clear ck CT' hbl PW j0 j1 j2 j3 j4 j5 j6 j7 j8 j9 j10 j11 j12 j13 j14 j15 j16 j17 j18 j19 j20 j21 j22 j23 j24 j25 j26 j27 j28 S9 hD
  go_wp2_with fail
  refine ct.mono ?_
  rintro e V10 ⟨rfl, hw5⟩
  have S10 := S'.tell t 10 HT.out hw5
  rw [← HU10.out] at S10
  clear ct S' hw5 HT hUl hlen9
  have hfin : U10 = L := by
    rw [HU10.out, HU9.out, HU8.out, HU7.out, HU6.out, HU5.out, HU4.out, HU3.out, HU2.out, HU1.out, HU0.out, HMAY.out.2.1]
    unfold textM
    rw [HMAY.out.2.2.2.1]
    simp only [List.append_assoc]
  have hc := S10.tx.cell
  have hbl := S10.bl
  rw [hfin] at hc
  clear S10
  go_wp2
  go_ret
  exact ⟨rfl, hbl⟩
end Go.Proofs.YtjmkecaljkcoiaaGreatDoor
