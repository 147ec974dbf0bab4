import Derived.Test.YtjmkecaljkcoiaaDoorQRfX
namespace Go.Proofs.YtjmkecaljkcoiaaDoor
open Go.RowKit Go.Maps
set_option linter.unusedVariables false
set_option linter.unusedSimpArgs false
set_option maxRecDepth 100000 in
set_option maxHeartbeats 2000000 in
theorem rform8_any (x : Vw) (B : Nat) (w : World) (h : VwIn w B x) (hs : VSmall x) (hB : B ≤ w.heap.size) (hmay : MayV x.v) :
    Calls Tryd.prog 43 #[.agg #[.int .u64 (x.id : Int), .slice x.A x.m x.c, .slice x.B x.d x.e, .slice x.C x.f x.g]] w (MakesB w (viewL x.v)) := by
  have hbz : Below w.heap.size w (w.alloc (.cells #[.int .u64 (x.id : Int), .slice x.A x.m x.c, .slice x.B x.d x.e, .slice x.C x.f x.g] 33)) := (Below.refl _ _).alloc (Nat.le_refl _) _
  have v0 := VAt.mk_ w x
  have ck := rcheck_any x B (w.alloc (.cells #[.int .u64 (x.id : Int), .slice x.A x.m x.c, .slice x.B x.d x.e, .slice x.C x.f x.g] 33)) true (h.below (hbz.mono hB)) hs (Nat.le_trans hB hbz.size) ⟨fun _ => hmay, fun _ => rfl⟩
  obtain ⟨id, A, m, c, l, B', d, e, q, C, f, g, r⟩ := x
  obtain ⟨hs1, hs2, hs3, hs4⟩ := hs
  have hi := h
  obtain ⟨i1, i2, i3, i4, i5, i6, i7, i8, i9, i10, i11⟩ := h
  obtain ⟨lvs, hlv⟩ : ∃ lvs, lvs = q.map Lf.l := ⟨_, rfl⟩
  have hv0 : Vw.v ⟨id, A, m, c, l, B', d, e, q, C, f, g, r⟩ = ⟨id, l, lvs, r⟩ := by rw [hlv]; rfl
  rw [hv0] at hmay
  dsimp only at *
  have hlen := i2.len
  have hlen2 := i5.len
  have hlen3 := i9.len
  have hll : lvs.length = d := by rw [hlv, List.length_map, hlen2]
  have hat : ∀ k (h1 : k < q.length) (h2 : k < lvs.length), lvs[k] = q[k].l := fun k h1 h2 => by simp [hlv]
  have hlv40 : ∀ a ∈ lvs, a.length ≤ 40 := fun a ha => by
    rw [hlv] at ha
    obtain ⟨y, hy, rfl⟩ := List.mem_map.1 ha
    have := hs4 y hy
    have h2 := (i8 y hy).es.len
    omega
  have hfin : ∀ t, shortL id ++ (shortL m ++ pidsL l) ++ shortL d ++ lvsL l lvs ++ someL l r ++ t = viewL (Vw.v ⟨id, A, m, c, l, B', d, e, q, C, f, g, r⟩) ++ t := fun t => by
    rw [hv0]
    unfold viewL
    simp only [List.append_assoc, hlen, hll]
  have hrl := someL_len l r
  have hvl := fun j => lvsL_len l (lvs.take j) (fun a ha => hlv40 a (List.mem_of_mem_take ha))
  have r1 := fun W => rnum7_any id W i1
  have r2 := fun W (hW : Below w.heap.size w W) => rpids7_any A m c l B W (i2.below (hW.mono hB)) (Nat.le_trans hB hW.size) (by omega)
  have r3 := fun W => rnum7_any d W (by omega)
  have r5 := fun W (hW : Below w.heap.size w W) => rranks_any A C m c f g l r B B W (i2.below (hW.mono hB)) (i9.below (hW.mono hB)) (Nat.le_trans hB hW.size) (Nat.le_trans hB hW.size) (by omega) (by omega) hmay.ldr.1
  have wd : IntKind.u64.wrap (d : Int) = (d : Int) := by rw [IntKind.wrap_u64]; omega
  have p1 := (shortL_len id).2
  have p2 := (shortL_len m).2
  have p3 := (shortL_len d).2
  have p4 := pidsL_len l
  have HF := hide hfin
  have HV := hide hvl
  have HAT := hide (And.intro hat (And.intro hll (And.intro hlen (And.intro hlen2 hlen3))))
  have HIN := hide (fun y hy => And.intro (i8 y hy) (hs4 y hy))
  have HLV := hide hmay.lvs.each
  have hlp : (shortL m ++ pidsL l).length ≤ 10 + 20 * m := by rw [List.length_append]; omega
  clear hlv hv0 hat hlen2 hlen3 hlv40 hfin hvl hmay i8 hs4 hi
  obtain ⟨l1, hl1⟩ : ∃ l1, l1 = shortL id := ⟨_, rfl⟩
  obtain ⟨l2, hl2⟩ : ∃ l2, l2 = shortL m ++ pidsL l := ⟨_, rfl⟩
  obtain ⟨l3, hl3⟩ : ∃ l3, l3 = shortL d := ⟨_, rfl⟩
  obtain ⟨l5, hl5⟩ : ∃ l5, l5 = someL l r := ⟨_, rfl⟩
  rw [← hl1, ← hl2, ← hl3, ← hl5] at HF
  rw [← hl1] at r1 p1
  rw [← hl2] at r2 hlp
  rw [← hl3] at r3 p3
  rw [← hl5] at r5 hrl
  have hm40 : m ≤ 40 := hs1
  clear hl1 hl2 hl3 hl5 p2 p4 hlen hll
  go_enter Tryd.func43, Tryd.ntmps43
  go_wp2_with fail
  refine ck.mono ?_
  rintro e w1 ⟨rfl, hb0⟩
  have hb1 := hbz.trans (hb0.mono hbz.size)
  have v1 := v0.later hb0
  have hs1' := hb1.size
  clear ck v0 hbz hb0
  obtain ⟨k0, k1, k2, k3⟩ := v1.cells
  dsimp only at k0 k1 k2 k3
  have g1 := v1.lt
  go_wp2_with fail
  go_region_held3 (fun w' => w'.cell? ⟨w.heap.size, 0, none⟩ = some (.int .u64 (id : Int)) ∧ w'.cell? ⟨w.heap.size, 1, none⟩ = some (.slice A m c))
    (first | exact ⟨k0, k1⟩ | exact ⟨(hq2.cell g1).trans k0, (hq2.cell g1).trans k1⟩ | exact ⟨(hq3.cell g1).trans k0, (hq3.cell g1).trans k1⟩ | exact ⟨(hq4.cell g1).trans k0, (hq4.cell g1).trans k1⟩)
    (first | ((with_reducible refine (r1 _).mono ?_); rintro e w2 ⟨A2, c2, rfl, ho2, hb2⟩; have hq2 : Below w1.heap.size w1 w2 := Below.trans ((Below.refl _ _).drew) hb2) | ((with_reducible refine (r2 _ (hb1.trans (hq2.mono hs1'))).mono ?_); rintro e w3 ⟨A3, c3, rfl, ho3, hb3⟩; have hq3 : Below w1.heap.size w1 w3 := hq2.trans (hb3.mono hq2.size)) | (refine step_bytes_own _ rfl (.tmp 10) (.tmp 13) rfl w1.heap.size l1.length _ l1 (by simp [Act.eval, Act.put]) (ho2.later hb3) _ A3 l2.length c3 l2 (by simp [Act.eval, Act.put]) ho3.bs (by omega) w1.heap.size w1 hq3 (Nat.le_refl _) hq3.size ?_; intro A4 c4 w4 ho4 hq4 _))
  have v4 := v1.later hq4
  have s4 := hq4.size
  have q4 := ho4
  clear k0 k1 k2 k3 ho2 ho3 hb2 hb3 hq2 hq3 r1 r2 ho4
  obtain ⟨k0, k1, k2, k3⟩ := v4.cells
  dsimp only at k0 k1 k2 k3
  go_wp2_with fail
  refine (r3 _).mono ?_
  rintro e w5 ⟨A5, c5, rfl, ho5, hb5⟩
  have ho4' := q4.later hb5
  have hq5 := hq4.trans (hb5.mono s4)
  have s5 := hq5.size
  have hbs := ho5.bs
  clear k0 k1 k2 k3 ho5 q4 v4 hb5 hq4 s4 r3
  go_wp2_with (at_builtin; refine wp_bytes_own _ rfl (.tmp 15) (.tmp 20) rfl w1.heap.size _ _ (l1 ++ l2) rfl ho4' _ A5 l3.length c5 l3 rfl hbs (by omega) w1.heap.size w1 hq5 (Nat.le_refl _) s5 ?_)
  intro A6 c6 w6 ho6 hq6 s6
  have H0 : OwnB w6 w1.heap.size (.slice A6 (l1.length + l2.length + l3.length) c6) (l1.length + l2.length + l3.length) (l1 ++ l2 ++ l3 ++ lvsL l (lvs.take 0)) := by simpa [lvsL] using ho6
  clear ho4' hq5 hbs s5 s6 ho6
  go_wp2
  go_loopw [3, 4] (fun v i wr => ∃ j : Nat, j ≤ d ∧ i = .int .i64 j ∧ ∃ A' m' c', v = .slice A' m' c' ∧ OwnB wr w1.heap.size (.slice A' m' c') m' (l1 ++ l2 ++ l3 ++ lvsL l (lvs.take j)) ∧ Below w1.heap.size w1 wr) (fun _ i _ => d - (intOf i).toNat)
  case atStart => exact ⟨0, Nat.zero_le _, rfl, A6, _, c6, rfl, H0, hq6⟩
  case round =>
    obtain ⟨j, hj, rfl, A', m', c', rfl, hO, hb⟩ := hrel
    clear H0 hq6
    have hs := hb.size
    have vr := v1.later hb
    have hbw := hb1.trans (hb.mono hs1')
    obtain ⟨k0, k1, k2, k3⟩ := vr.cells
    dsimp only at k0 k1 k2 k3
    have hm' : m' ≤ 30000 := by
      have h1 := HV.out j
      have h2 : (lvs.take j).length ≤ j := List.length_take_le _ _
      rw [← hO.len, List.length_append, List.length_append, List.length_append]
      omega
    have gr := vr.lt
    by_cases hlt : j < d
    · obtain ⟨ad, hlq, rfl, hbl, hcc⟩ := (i5.below (hbw.mono hB)).at_ lfOk hlt
      have hjl : j < lvs.length := by rw [HAT.out.2.1]; exact hlt
      have hy := HIN.out _ (List.getElem_mem hlq)
      have hlf := HLV.out _ (List.getElem_mem hjl)
      have hstep := lvsL_take l hjl
      rw [HAT.out.1 j hlq hjl] at hlf hstep
      have kl := lf_at hcc
      obtain ⟨y, hye⟩ : ∃ y, y = q[j] := ⟨_, rfl⟩
      rw [← hye] at hy hlf hstep kl
      obtain ⟨hy1, hy2⟩ := hy
      have r6 := fun W (hW : Below w.heap.size w W) => rranks_any A y.A m c y.m y.c l y.l B B W (i2.below (hW.mono hB)) (hy1.es.below (hW.mono hB)) (Nat.le_trans hB hW.size) (Nat.le_trans hB hW.size) (by omega) (by omega) hlf.2.1
      have hyl := hy1.es.len
      have p6 := someL_len l y.l
      obtain ⟨l6, hl6⟩ : ∃ l6, l6 = someL l y.l := ⟨_, rfl⟩
      rw [← hl6] at r6 p6 hstep
      have hl6b : l6.length ≤ 1000 := by omega
      have gl : (ad.add j).block < w1.heap.size := by rw [block_of_add]; omega
      have KL : w1.cell? (ad.add j) = some (.slice y.A y.m y.c) := (hb.cell gl).symm.trans kl
      have K1 := v1.cells.2.1
      have K2 := v1.cells.2.2.1
      dsimp only at K1 K2
      have z1 : (0 : Int) ≤ (j : Int) := by omega
      have z2 : (j : Int) < (d : Int) := by omega
      have HS := hide hstep
      clear hcc hlf hstep hye hl6 hy1 p6 hyl hjl hlq
      go_wp2_with fail
      go_region_held3 (fun w' => w'.cell? ⟨w.heap.size, 1, none⟩ = some (.slice A m c) ∧ w'.cell? ⟨w.heap.size, 2, none⟩ = some (.slice (some ad) d e) ∧ w'.cell? (ad.add j) = some (.slice y.A y.m y.c))
        (first | exact ⟨k1, k2, kl⟩ | exact ⟨(hq7.cell g1).trans K1, (hq7.cell g1).trans K2, (hq7.cell gl).trans KL⟩ | exact ⟨(hq8.cell g1).trans K1, (hq8.cell g1).trans K2, (hq8.cell gl).trans KL⟩)
        (first | ((with_reducible refine (r6 _ hbw.drew).mono ?_); rintro e w7 ⟨A7, c7, rfl, ho7, hb7⟩; have hr7 : Below wr.heap.size wr w7 := Below.trans ((Below.refl _ _).drew) hb7; have hq7 : Below w1.heap.size w1 w7 := hb.trans (hr7.mono hs)) | (refine step_bytes_own _ rfl (.tmp 29) (.tmp 37) rfl w1.heap.size m' _ (l1 ++ l2 ++ l3 ++ lvsL l (lvs.take j)) (by simp [Act.eval, Act.put]) (hO.later hr7) _ A7 l6.length c7 l6 (by simp [Act.eval, Act.put]) ho7.bs (by omega) w1.heap.size w1 hq7 (Nat.le_refl _) hq7.size ?_; intro A8 c8 w8 ho8 hq8 _))
      have hst := HS.out
      have e7 : l1 ++ l2 ++ l3 ++ lvsL l (lvs.take j) ++ l6 = l1 ++ l2 ++ l3 ++ lvsL l (lvs.take (j + 1)) := by rw [hst]; simp only [List.append_assoc]
      have ho8 : OwnB w8 w1.heap.size (.slice A8 (m' + l6.length) c8) (m' + l6.length) (l1 ++ l2 ++ l3 ++ lvsL l (lvs.take (j + 1))) := by rw [← e7]; simpa only [List.append_assoc] using ho8
      clear e7 hst
      have q8 := ho8
      have b8 := hq8
      clear ho8 hq8 hq7 hr7 ho7 hb7 K1 K2 KL k1 k2 kl k0 k3 HS r6 hO hb
      go_wp2
      go_roundw
      case rel => exact ⟨j + 1, by omega, by go_num, _, _, _, rfl, q8, b8⟩
      case measure => simp [intOf]; omega
    · have hrf := HAT.out.2.2.2.2
      have e9 : lvs.take j = lvs := List.take_of_length_le (by rw [HAT.out.2.1]; omega)
      rw [e9] at hO
      clear e9
      go_wp2_with fail
      refine (r5 _ hbw).mono ?_
      rintro e w9 ⟨A9, c9, rfl, ho9, hb9⟩
      have hO9 := hO.later hb9
      have hq9 := hb.trans (hb9.mono hs)
      have s9 := hq9.size
      have hbs := ho9.bs
      clear k0 k1 k2 k3 ho9 hO vr hb9 hb hs r5
      go_wp2_with (at_builtin; refine wp_bytes_own _ rfl (.tmp 39) (.tmp 44) rfl w1.heap.size _ _ _ rfl hO9 _ A9 l5.length c9 l5 rfl hbs (by omega) w1.heap.size w1 hq9 (Nat.le_refl _) s9 ?_)
      intro A8 c8 w8 ho8 hq8 s8
      have e1 := HF.out []
      simp only [List.append_nil, List.append_assoc] at e1
      try simp only [List.append_assoc] at ho8
      rw [e1] at ho8
      have hml := ho8.len
      have HM := Lib.hid (⟨A8, c8, by rw [hml], hml ▸ ho8.mono hs1', hb1.trans (hq8.mono hs1')⟩ : MakesB w (viewL (Vw.v ⟨id, A, m, c, l, B', d, e, q, C, f, g, r⟩)) (.returned (.slice A8 (m' + l5.length) c8)) w8)
      clear e1 hml ho8 hO9 hbs
      go_wp2
      go_ret
      exact HM.out
end Go.Proofs.YtjmkecaljkcoiaaDoor
