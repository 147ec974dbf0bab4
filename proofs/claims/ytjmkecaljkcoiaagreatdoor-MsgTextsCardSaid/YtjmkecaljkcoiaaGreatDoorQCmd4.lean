import Derived.Test.YtjmkecaljkcoiaaGreatDoorQRd4
import Derived.Test.YtjmkecaljkcoiaaGreatDoorQViewD
import Derived.Test.YtjmkecaljkcoiaaGreatDoorQCmd3
namespace Go.Proofs.YtjmkecaljkcoiaaGreatDoor
open Go.RowKit Go.Maps
set_option linter.unusedVariables false
set_option linter.unusedSimpArgs false
theorem VAt.turn {w w' : World} {g b : Nat} {mg : Option Nat} {x : Vw} (h : VAt w g x) (ht : Turn w w' b mg) (h1 : g ≠ b) (h2 : some g ≠ mg) : VAt w' g x := (ht.block g h.lt h1 h2).trans h
set_option maxRecDepth 100000 in
set_option maxHeartbeats 4000000 in
theorem vput_any (x : Vw) (base b B : Nat) (mg : Option Nat) (L : List UInt8) (w : World) (h : WrAt w base b mg L) (hbase : base ≤ w.heap.size) (hn : L.length ≤ 1000000) (hx : VwIn w B x) (hB : B ≤ base) (hsx : VSmall x) (hmay : MayV x.v) :
    Calls Tryz.prog 155 #[.pointer (some ⟨b, 0, none⟩), .agg #[.int .u64 x.id, .slice x.A x.m x.c, .slice x.B x.d x.e, .slice x.C x.f x.g]] w (WroteP w base b mg (L ++ viewL x.v)) := by
  have hmf : ∀ (fn : Fn) (first cap : Array Value) (w : World), (Instr.makeFunc fn first cap).run Tryz.prog w = .ok (.func fn first cap) w := fun _ _ _ _ => rfl
  have hbz : Below w.heap.size w ((w.alloc (.cells #[.pointer (some ⟨b, 0, none⟩)] 143)).alloc (.cells #[.int .u64 x.id, .slice x.A x.m x.c, .slice x.B x.d x.e, .slice x.C x.f x.g] 26)) := ((Below.refl _ _).alloc (Nat.le_refl _) _).alloc (by simp) _
  have v1 := VAt.mk_ (w.alloc (.cells #[.pointer (some ⟨b, 0, none⟩)] 143)) x
  simp only [World.size_alloc] at v1
  have p1 : ((w.alloc (.cells #[.pointer (some ⟨b, 0, none⟩)] 143)).alloc (.cells #[.int .u64 x.id, .slice x.A x.m x.c, .slice x.B x.d x.e, .slice x.C x.f x.g] 26)).cell? ⟨w.heap.size, 0, none⟩ = some (.pointer (some ⟨b, 0, none⟩)) := by go_simp
  have hBw : B ≤ w.heap.size := Nat.le_trans hB hbase
  have hin := hx.below (hbz.mono hBw)
  have cg := check_any x B _ true hin hsx (Nat.le_trans hBw hbz.size) ⟨fun _ => hmay, fun _ => rfl⟩
  rw [show ckI true = 0 from rfl] at cg
  obtain ⟨j0, j1, j2, j3⟩ := v1.cells
  go_enter Tryz.func155, Tryz.ntmps155
  go_wp2_with fail
  refine cg.mono ?_
  rintro e w2 ⟨rfl, hb1⟩
  have hb2 := hbz.trans (hb1.mono hbz.size)
  have v2 := v1.later hb1
  have p2 := cellL p1 hb1
  obtain ⟨j0', j1', j2', j3'⟩ := v2.cells
  clear cg j0 j1 j2 j3 hin v1 p1 hb1 hbz
  have hin2 := hx.below (hb2.mono hBw)
  go_wp2_with fail
  refine (ranksOf_any x.A x.m x.c x.l B w2 hin2.es (Nat.le_trans hBw hb2.size) (by have := hsx.m; omega)).mono ?_
  rintro e w3 ⟨mb, rfl, hpl, hm1, hm2, hb3⟩
  have hb4 := hb2.trans (hb3.mono hb2.size)
  have v3 := v2.later hb3
  have p3 := cellL p2 hb3
  clear j0' j1' j2' j3' v2 p2 hin2
  have v4 := v3.alloc (.cells #[.map (some mb)] 124)
  have q4 : (w3.alloc (.cells #[.map (some mb)] 124)).cell? ⟨w3.heap.size, 0, none⟩ = some (.map (some mb)) := by go_simp
  have hb5 := hb4.alloc hb4.size (.cells #[.map (some mb)] 124)
  have p4 := cellL p3 ((Below.refl _ _).alloc (Nat.le_refl _) (.cells #[.map (some mb)] 124))
  have pl4 := hpl.alloc (.cells #[.map (some mb)] 124)
  have hsz : w.heap.size + 2 ≤ w3.heap.size := v3.lt
  have hs3 : (w3.alloc (.cells #[.map (some mb)] 124)).heap.size = w3.heap.size + 1 := by simp
  have hmb := hpl.lt
  obtain ⟨j0, j1, j2, j3⟩ := v4.cells
  have hlt := h.lt
  have hmlt := h.mlt
  have hl1 := hx.es.len
  have hl2 := hx.lv.len
  have hl3 := hx.dr.len
  have hmz := hsx.m
  have hdz := hsx.d
  have hfz := hsx.f
  have wd : IntKind.u64.wrap (x.d : Int) = (x.d : Int) := by rw [IntKind.wrap_u64]; omega
  have hpw : w.heap.size ≠ b ∧ some w.heap.size ≠ mg := ⟨by omega, fun e => by have := hmlt _ e.symm; omega⟩
  have hpv : w.heap.size + 1 ≠ b ∧ some (w.heap.size + 1) ≠ mg := ⟨by omega, fun e => by have := hmlt _ e.symm; omega⟩
  have hpm : w3.heap.size ≠ b ∧ some w3.heap.size ≠ mg := ⟨by omega, fun e => by have := hmlt _ e.symm; omega⟩
  have hpmb : mb ≠ b ∧ some mb ≠ mg := ⟨by have := hb2.size; omega, fun e => by have := hmlt _ e.symm; have := hb2.size; omega⟩
  have hpwlt : w.heap.size < w3.heap.size + 1 := by omega
  have hpvlt : w.heap.size + 1 < w3.heap.size + 1 := by omega
  have hpmlt : w3.heap.size < w3.heap.size + 1 := by omega
  have hpmblt : mb < w3.heap.size + 1 := by omega
  rw [← hs3] at hpwlt hpvlt hpmlt hpmblt
  have h4 := h.later hb5
  have hbase4 := Nat.le_trans hbase hb5.size
  clear hb3 hb4 v3 p3 hb2 hm1 hm2 hpl hs3 hsz hmb hlt hmlt
  go_wp2_with fail
  generalize (w3.alloc (.cells #[.map (some mb)] 124)) = w4 at *
  have kp := fun W (t : Turn w4 W b mg) => t.cell p4 hpw.1 hpw.2
  have kq := fun W (t : Turn w4 W b mg) => t.cell q4 hpm.1 hpm.2
  have kv := fun W (t : Turn w4 W b mg) => v4.turn t hpv.1 hpv.2
  have kl := fun W (t : Turn w4 W b mg) => pl4.turn t hpmb.1 hpmb.2
  have hx4 := hx.below (hb5.mono hBw)
  have kx := fun W (t : Turn w4 W b mg) => (hx4.more hB).below (h4.turned t hbase4)
  have HK := hide (And.intro kp (And.intro kq (And.intro kv kl)))
  clear kp kq kv kl p4 q4 v4 pl4 hx4
  refine (wnum_any base b mg L x.id w4 h4 hbase4 (by omega) hx.hid).mono ?_
  rintro e w5 ⟨rfl, mg5, h5, ht5, hm5⟩
  have hbase5 := Nat.le_trans hbase4 ht5.size
  have hs1 := (shortL_len x.id).2
  obtain ⟨L1, hL1⟩ : ∃ L1, L1 = L ++ shortL x.id := ⟨_, rfl⟩
  have hl5 : L1.length ≤ 1000010 := by rw [hL1, List.length_append]; omega
  rw [← hL1] at h5
  obtain ⟨i0, i1, i2, i3⟩ := (HK.out.2.2.1 w5 ht5).cells
  have cp := HK.out.1 w5 ht5
  clear j0 j1 j2 j3 h4
  go_wp2_with fail
  refine (wpids_any base b mg5 L1 x.A x.m x.c x.l w5 h5 hbase5 (by omega) (kx w5 ht5).es (by omega)).mono ?_
  rintro e w6 ⟨rfl, mg6, h6, ht6', hm6'⟩
  obtain ⟨ht6, hm6⟩ := Turn.two ht5 hm5 ht6' hm6'
  have hbase6 := Nat.le_trans hbase4 ht6.size
  have hs2 := (shortL_len x.m).2
  have hs2' := pidsL_len x.l
  obtain ⟨L2, hL2⟩ : ∃ L2, L2 = L1 ++ (shortL x.m ++ pidsL x.l) := ⟨_, rfl⟩
  have hl6 : L2.length ≤ 1000900 := by rw [hL2, List.length_append, List.length_append]; omega
  rw [← hL2] at h6
  clear i0 i1 i2 i3 cp h5 ht5 hm5 ht6' hm6'
  obtain ⟨i0, i1, i2, i3⟩ := (HK.out.2.2.1 w6 ht6).cells
  have cp := HK.out.1 w6 ht6
  go_wp2_with fail
  refine (wnum_any base b mg6 L2 x.d w6 h6 hbase6 (by omega) (by omega)).mono ?_
  rintro e w7 ⟨rfl, mg7, h7, ht7', hm7'⟩
  obtain ⟨ht7, hm7⟩ := Turn.two ht6 hm6 ht7' hm7'
  have hs3 := (shortL_len x.d).2
  obtain ⟨L3, hL3⟩ : ∃ L3, L3 = L2 ++ shortL x.d := ⟨_, rfl⟩
  have hl7 : L3.length ≤ 1001000 := by rw [hL3, List.length_append]; omega
  rw [← hL3] at h7
  clear i0 i1 i2 i3 cp h6 ht6 hm6 ht7' hm7'
  obtain ⟨i0, i1, i2, i3⟩ := (HK.out.2.2.1 w7 ht7).cells
  have HLL := hide (And.intro hL1 (And.intro hL2 hL3))
  clear hL1 hL2 hL3
  have H0 : WrAt w7 base b mg7 (L3 ++ lvsL x.l ((x.q.map Lf.l).take 0)) := by simpa [lvsL] using h7
  go_wp2_with fail
  go_loopw [32] (fun i wr => ∃ j : Nat, j ≤ x.d ∧ i = .int .i64 j ∧ ∃ mg', WrAt wr base b mg' (L3 ++ lvsL x.l ((x.q.map Lf.l).take j)) ∧ Turn w4 wr b mg ∧ Mov w4 mg mg') (fun i _ => x.d - (intOf i).toNat)
  case atStart => exact ⟨0, Nat.zero_le _, rfl, mg7, H0, ht7, hm7⟩
  case round =>
    clear H0 h7 ht7 hm7 i0 i1 i2 i3 hs1 hs2 hs2' hs3
    obtain ⟨j, hj, rfl, mg', h', ht', hm'⟩ := hrel
    have hlv : (lvsL x.l ((x.q.map Lf.l).take j)).length ≤ 410 * 40 := by
      have h1 := lvsL_len x.l ((x.q.map Lf.l).take j) (fun a ha => by
        obtain ⟨y, hy, rfl⟩ := List.mem_map.1 (List.mem_of_mem_take ha)
        have h2 := hsx.each y hy
        have h3 := ((kx wr ht').each y hy).es.len
        omega)
      have h2 : ((x.q.map Lf.l).take j).length ≤ j := List.length_take_le _ _
      have h3 : 410 * ((x.q.map Lf.l).take j).length ≤ 410 * 40 := Nat.mul_le_mul_left _ (by omega)
      omega
    have hln : (L3 ++ lvsL x.l ((x.q.map Lf.l).take j)).length ≤ 9000000 := by rw [List.length_append]; omega
    have hbase8 := Nat.le_trans hbase4 ht'.size
    have hx8 := kx wr ht'
    by_cases hlt : j < x.d
    · obtain ⟨ad, hl, hA9, hbl, hc⟩ := hx8.lv.at_ lfOk hlt
      have hstep := lvsL_take x.l (l := x.q.map Lf.l) (j := j) (by rw [List.length_map]; exact hl)
      rw [List.getElem_map] at hstep
      have hym := List.getElem_mem hl
      have hyin := hx8.each _ hym
      have hys := hsx.each _ hym
      have hyr := (hmay.lvs.each _ (List.mem_map.2 ⟨_, hym, rfl⟩)).2.1
      obtain ⟨y, hy⟩ : ∃ y, y = x.q[j] := ⟨_, rfl⟩
      rw [← hy] at hc hstep hyin hys hyr
      have c0 := lf_at hc
      have HS := hide hstep
      clear hy hstep hc hym hbl hlv
      go_wp2_with fail
      refine (put1_any base b w.heap.size w3.heap.size mb x.l.length base mg' _ x.l y.l y.A y.m y.c wr h' hbase8 hln hyin.es (Nat.le_refl _) (by omega) hyr (by omega) (HK.out.1 wr ht') (HK.out.2.1 wr ht') (HK.out.2.2.2 wr ht') ⟨hpw.1, hm'.ne hpw.2 hpwlt⟩ ⟨hpm.1, hm'.ne hpm.2 hpmlt⟩ ⟨hpmb.1, hm'.ne hpmb.2 hpmblt⟩).mono ?_
      rintro e w8 ⟨rfl, mg8, h8, ht8', hm8'⟩
      obtain ⟨ht8, hm8⟩ := Turn.two ht' hm' ht8' hm8'
      rw [List.append_assoc, ← HS.out] at h8
      clear ht8' hm8' ht' hm' h' hx8 hyin hys hyr c0 HS hA9
      go_wp2_with fail
      go_roundw
      case rel => exact ⟨j + 1, by omega, by go_num, mg8, h8, ht8, hm8⟩
      case measure => simp [intOf]; omega
    · have e9 : (x.q.map Lf.l).take j = x.q.map Lf.l := List.take_of_length_le (by rw [List.length_map]; omega)
      rw [e9] at h' hln
      obtain ⟨i0, i1, i2, i3⟩ := (HK.out.2.2.1 wr ht').cells
      have hmr : ∀ p ∈ x.r, p ∈ x.l := fun p hp => hmay.ldr.1 p hp
      clear e9 hlv
      go_wp2_with fail
      refine (put1_any base b w.heap.size w3.heap.size mb x.l.length base mg' _ x.l x.r x.C x.f x.g wr h' hbase8 hln hx8.dr (Nat.le_refl _) (by omega) hmr (by omega) (HK.out.1 wr ht') (HK.out.2.1 wr ht') (HK.out.2.2.2 wr ht') ⟨hpw.1, hm'.ne hpw.2 hpwlt⟩ ⟨hpm.1, hm'.ne hpm.2 hpmlt⟩ ⟨hpmb.1, hm'.ne hpmb.2 hpmblt⟩).mono ?_
      rintro e w8 ⟨rfl, mg8, h8, ht8', hm8'⟩
      obtain ⟨ht8, hm8⟩ := Turn.two ht' hm' ht8' hm8'
      have e10 : L3 ++ lvsL x.l (x.q.map Lf.l) ++ someL x.l x.r = L ++ viewL x.v := by
        rw [HLL.out.2.2, HLL.out.2.1, HLL.out.1]
        unfold viewL
        simp only [Vw.v, List.length_map, hl1, hl2, List.append_assoc]
      rw [e10] at h8
      have hw : WroteP w base b mg (L ++ viewL x.v) (.returned (.tuple #[])) w8 := WroteP.ahead hb5 ⟨rfl, mg8, h8, ht8, hm8⟩
      have HW := Lib.hid hw
      clear hw e10 h8 ht8 hm8 ht8' hm8' ht' hm' h' hx8 i0 i1 i2 i3
      go_wp2_with fail
      first | go_end0 | refine bodyPost_ret (results_none rfl _ _ _) rfl ?_
      exact HW.out
end Go.Proofs.YtjmkecaljkcoiaaGreatDoor
namespace Go.Proofs.YtjmkecaljkcoiaaGreatDoor
open Go.RowKit Go.Maps
set_option linter.unusedVariables false
set_option linter.unusedSimpArgs false
theorem viewL_len9 {v : Vi} (hv : MayV v) : (viewL v).length ≤ 100000 := by
  have hn := hv.mem.most
  have hN := Nat.le_trans hv.lvs.few9 hn
  have h1 := (shortL_len v.id).2
  have h2 := (shortL_len v.mem.length).2
  have h3 := pidsL_len v.mem
  have h4 := (shortL_len v.lvs.length).2
  have h5 := lvsL_len v.mem v.lvs (fun a ha => Nat.le_trans ((hv.lvs.each a ha).2.len) (by omega))
  have h6 := someL_len v.mem v.ldr
  have h7 := Nat.le_trans hv.ldr.len hn
  unfold viewL
  simp only [List.length_append]
  omega
theorem formC_len {c : Cm} (h : MayC c) : (formC c).length ≤ 100100 := by
  have h0 := (shortL_len 1).2
  have h1 := (shortL_len 2).2
  have h9 := (shortL_len 3).2
  have hs := h.short
  unfold formC tailC
  rcases h.but with ⟨h0, _⟩ | ⟨h0, _⟩ | ⟨h0, hv, _⟩
  · rw [h0]; simp; omega
  · rw [h0]
    have h2 := pidL_len c.p.i c.p.k
    have h3 := (shortL_len c.num).2
    have h4 := (shortL_len c.vn).2
    have h5 := (shortL_len c.d.length).2
    simp only [if_true, List.length_append]
    rw [show Int.toNat 2 = 2 from rfl]
    omega
  · have h2 := viewL_len9 hv
    rw [h0]
    simp
    omega
set_option maxRecDepth 100000 in
theorem wbytes_far (base b B : Nat) (mg : Option Nat) (L : List UInt8) (A : Option Addr) (n c : Nat) (l : List UInt8) (w : World) (h : WrAt w base b mg L) (hbase : base ≤ w.heap.size) (hn : L.length ≤ 9000000) (hA : ∀ W, Turn w W b mg → Bs W B A n l) (hm : n ≤ 9000000) :
    Calls Tryz.prog 156 #[.pointer (some ⟨b, 0, none⟩), .slice A n c] w (WroteP w base b mg (L ++ (shortL n ++ l))) := by
  have wr : IntKind.u64.wrap (n : Int) = (n : Int) := by rw [IntKind.wrap_u64]; omega
  go_enter Tryz.func156, Tryz.ntmps156
  go_wp2_with fail
  refine (wnum_any base b mg L n w h hbase (by omega) (by omega)).mono ?_
  rintro e w2 ⟨rfl, mg2, h2, ht2, hm2⟩
  have hA2 := hA w2 ht2
  have hs2 := ht2.size
  have hl2 : (L ++ shortL n).length ≤ 10000000 := by rw [List.length_append]; have := (shortL_len n).2; omega
  go_wp2_with fail
  refine (lay_any base b mg2 _ A n c l B w2 h2 hA2 (by omega) (by omega)).mono ?_
  rintro e w3 ⟨rfl, hw⟩
  have hz := WroteP.two ht2 hm2 ⟨rfl, hw⟩
  rw [List.append_assoc] at hz
  have HW := hide hz
  clear hz hw
  go_wp2
  first | go_end0 | refine bodyPost_ret (results_none rfl _ _ _) rfl ?_
  exact HW.out
theorem zeroX_at (w : World) (B : Nat) : VwIn w B zeroX :=
  ⟨by decide, Es.none_, Nat.le_refl _, Nat.zero_le _, Es.none_, Nat.le_refl _, Nat.zero_le _, fun y hy => by simp [zeroX] at hy, Es.none_, Nat.le_refl _, Nat.zero_le _⟩
set_option maxRecDepth 100000 in
set_option maxHeartbeats 1000000 in
theorem cput_far (y : Cx) (base b B Bv : Nat) (mg : Option Nat) (L : List UInt8) (w : World) (h : WrAt w base b mg L) (hbase : base ≤ w.heap.size) (hn : L.length ≤ 500000) (hy : CxIn w B y) (hBw : B ≤ w.heap.size) (hfar : ∀ W, Turn w W b mg → Bs W B y.A y.n y.l) (hvw : VwIn w Bv y.x) (hB : Bv ≤ base) (hsy : CSmall y) (hmay : MayC y.m) :
    Calls Tryz.prog 154 #[.pointer (some ⟨b, 0, none⟩), .agg #[.int .i64 y.kind, .int .u16 y.p.i, .int .u32 y.p.k, .int .u64 y.num, .int .u64 y.vn, .slice y.A y.n y.c, .int .u64 y.x.id, .slice y.x.A y.x.m y.x.c, .slice y.x.B y.x.d y.x.e, .slice y.x.C y.x.f y.x.g]] w (WroteP w base b mg (L ++ formC y.m)) := by
  have hbz : Below w.heap.size w (w.alloc (.cells #[.int .i64 y.kind, .int .u16 y.p.i, .int .u32 y.p.k, .int .u64 y.num, .int .u64 y.vn, .slice y.A y.n y.c, .int .u64 y.x.id, .slice y.x.A y.x.m y.x.c, .slice y.x.B y.x.d y.x.e, .slice y.x.C y.x.f y.x.g] 48)) := (Below.refl _ _).alloc (Nat.le_refl _) _
  have v0 := CAt.mk_ w y
  have HFAR := hide hfar
  clear hfar
  have ck := check9_any y B (w.alloc (.cells #[.int .i64 y.kind, .int .u16 y.p.i, .int .u32 y.p.k, .int .u64 y.num, .int .u64 y.vn, .slice y.A y.n y.c, .int .u64 y.x.id, .slice y.x.A y.x.m y.x.c, .slice y.x.B y.x.d y.x.e, .slice y.x.C y.x.f y.x.g] 48)) true (hy.below (hbz.mono hBw)) hsy.v (Nat.le_trans hBw hbz.size) ⟨fun _ => hmay.but, fun _ => rfl⟩
  rw [show y.n = y.l.length from hy.bs.len.symm, ckE_ok (by have := hmay.short; simp only [Cx.m] at this; omega)] at ck
  rw [show y.l.length = y.n from hy.bs.len] at ck
  obtain ⟨kind, p, num, vn, A, n, c, l, xv⟩ := y
  obtain ⟨j0, j1, j2, j3, j4, j5, j6, j7, j8, j9⟩ := v0.cells
  have hw1 := h.later hbz
  have hby := hy.below (hbz.mono hBw)
  obtain ⟨i1, i2, i3, i4, i5, i6, i7, i8⟩ := hy
  have hbl := h.lt
  dsimp only at *
  have hz1 : (w.alloc (.cells #[.int .i64 kind, .int .u16 p.i, .int .u32 p.k, .int .u64 num, .int .u64 vn, .slice A n c, .int .u64 xv.id, .slice xv.A xv.m xv.c, .slice xv.B xv.d xv.e, .slice xv.C xv.f xv.g] 48)).heap.size = w.heap.size + 1 := by simp
  generalize hwq : w.alloc (.cells #[.int .i64 kind, .int .u16 p.i, .int .u32 p.k, .int .u64 num, .int .u64 vn, .slice A n c, .int .u64 xv.id, .slice xv.A xv.m xv.c, .slice xv.B xv.d xv.e, .slice xv.C xv.f xv.g] 48) = w1 at *
  go_enter Tryz.func154, Tryz.ntmps154
  go_wp2_with fail
  refine ck.mono ?_
  rintro e w2 ⟨rfl, hb⟩
  have hb2 := hbz.trans (hb.mono hbz.size)
  have v2 := v0.later hb
  have hw2 := h.later hb2
  have hs2 := hb.size
  clear ck v0 hbz hby hwq hw1 hb j0 j1 j2 j3 j4 j5 j6 j7 j8 j9
  obtain ⟨j0, j1, j2, j3, j4, j5, j6, j7, j8, j9⟩ := v2.cells
  dsimp only at j0 j1 j2 j3 j4 j5 j6 j7 j8 j9
  have hmb : ∀ g, mg = some g → g < w.heap.size := fun g hg => (h.mlt g hg).2.1
  have n1 : w.heap.size ≠ b := by omega
  have n2 : some w.heap.size ≠ mg := fun e => by have := hmb _ e.symm; omega
  have hsz2 : base ≤ w2.heap.size := Nat.le_trans hbase hb2.size
  have low2 : Below base w w2 := hb2.mono hbase
  have hlt2 : w.heap.size < w2.heap.size := v2.lt
  have HB := hide hmay.but
  have HS := hide hmay.short
  have HW := hide hb2
  clear hmay hb2 hmb h
  by_cases k1 : kind = 1
  · subst k1
    have cw : Calls Tryz.prog 150 #[.pointer (some ⟨b, 0, none⟩), .int .u64 1] w2 (WroteP w2 base b mg (L ++ shortL 1)) := wnum_any base b mg L 1 w2 hw2 hsz2 (by omega) (by decide)
    go_wp2_with fail
    refine cw.mono ?_
    rintro e w3 ⟨rfl, mg3, h3, ht3, hm3⟩
    have v3 := v2.turn ht3 n1 n2
    have HR := hide (WroteP.ahead HW.out ⟨rfl, mg3, h3, ht3, hm3⟩)
    clear h3 ht3 hm3 cw j0 j1 j2 j3 j4 j5 j6 j7 j8 j9
    obtain ⟨j0, j1, j2, j3, j4, j5, j6, j7, j8, j9⟩ := v3.cells
    dsimp only at j0 j1 j2 j3 j4 j5 j6 j7 j8 j9
    go_wp2
    first | go_end0 | refine bodyPost_ret (results_none rfl _ _ _) rfl ?_
    have e1 : formC (Cx.m ⟨1, p, num, vn, A, n, c, l, xv⟩) = shortL 1 := by unfold formC tailC Cx.m; simp
    rw [e1]
    exact HR.out
  have q1 : (kind == 1) = false := by rw [beq_eq_false_iff_ne]; exact k1
  by_cases k2 : kind = 2
  · subst k2
    obtain ⟨m1, m2, m3, m4⟩ := (but2 rfl).1 HB.out
    have b2 := m2.2
    have b3 := m3.2
    simp only [Cx.m] at b2 b3
    clear m1 m2 m3 m4
    have hlen := i5.len
    have hl2 := HS.out
    simp only [Cx.m] at hl2
    rw [hlen] at hl2
    have s1 := (shortL_len 2).2
    have s2 := pidL_len p.i p.k
    have s3 := (shortL_len num).2
    have s4 := (shortL_len vn).2
    have e1 : L ++ shortL 2 ++ pidL p.i p.k ++ shortL num ++ shortL vn ++ (shortL n ++ l) = L ++ formC (Cx.m ⟨2, p, num, vn, A, n, c, l, xv⟩) := by
      unfold formC tailC Cx.m
      simp [List.append_assoc, hlen]
    have HE := hide e1
    clear e1 hlen
    have cw : Calls Tryz.prog 150 #[.pointer (some ⟨b, 0, none⟩), .int .u64 2] w2 (WroteP w2 base b mg (L ++ shortL 2)) := wnum_any base b mg L 2 w2 hw2 hsz2 (by omega) (by decide)
    go_wp2_with fail
    refine cw.mono ?_
    rintro e w3 ⟨rfl, mg3, h3, ht3, hm3⟩
    have v3 := v2.turn ht3 n1 n2
    have low3 := low2.trans (hw2.turned ht3 hsz2)
    have hsz3 := Nat.le_trans hsz2 ht3.size
    have n3 := hm3.ne n2 hlt2
    have hlt3 := v3.lt
    clear cw j0 j1 j2 j3 j4 j5 j6 j7 j8 j9 v2
    obtain ⟨j0, j1, j2, j3, j4, j5, j6, j7, j8, j9⟩ := v3.cells
    dsimp only at j0 j1 j2 j3 j4 j5 j6 j7 j8 j9
    have cp := wpid_any base b mg3 (L ++ shortL 2) p.i p.k w3 h3 hsz3 (by rw [List.length_append]; omega) p.hi p.hk
    have HT3 := hide (And.intro ht3 hm3)
    clear ht3 hm3
    go_wp2_with fail
    refine cp.mono ?_
    rintro e w4 ⟨rfl, mg4, h4, ht4, hm4⟩
    have v4 := v3.turn ht4 n1 n3
    have low4 := low3.trans (h3.turned ht4 hsz3)
    have hsz4 := Nat.le_trans hsz3 ht4.size
    have n4 := hm4.ne n3 hlt3
    have hlt4 := v4.lt
    have HT4 := hide (Turn.two HT3.out.1 HT3.out.2 ht4 hm4)
    clear cp j0 j1 j2 j3 j4 j5 j6 j7 j8 j9 v3 h3 ht4 hm4 HT3
    obtain ⟨j0, j1, j2, j3, j4, j5, j6, j7, j8, j9⟩ := v4.cells
    dsimp only at j0 j1 j2 j3 j4 j5 j6 j7 j8 j9
    have cn := wnum_any base b mg4 _ num w4 h4 hsz4 (by simp only [List.length_append]; omega) (by omega)
    go_wp2_with fail
    refine cn.mono ?_
    rintro e w5 ⟨rfl, mg5, h5, ht5, hm5⟩
    have v5 := v4.turn ht5 n1 n4
    have low5 := low4.trans (h4.turned ht5 hsz4)
    have hsz5 := Nat.le_trans hsz4 ht5.size
    have n5 := hm5.ne n4 hlt4
    have hlt5 := v5.lt
    have HT5 := hide (Turn.two HT4.out.1 HT4.out.2 ht5 hm5)
    clear cn j0 j1 j2 j3 j4 j5 j6 j7 j8 j9 v4 h4 ht5 hm5 HT4
    obtain ⟨j0, j1, j2, j3, j4, j5, j6, j7, j8, j9⟩ := v5.cells
    dsimp only at j0 j1 j2 j3 j4 j5 j6 j7 j8 j9
    have cn := wnum_any base b mg5 _ vn w5 h5 hsz5 (by simp only [List.length_append]; omega) (by omega)
    go_wp2_with fail
    refine cn.mono ?_
    rintro e w6 ⟨rfl, mg6, h6, ht6, hm6⟩
    have v6 := v5.turn ht6 n1 n5
    have low6 := low5.trans (h5.turned ht6 hsz5)
    have hsz6 := Nat.le_trans hsz5 ht6.size
    have n6 := hm6.ne n5 hlt5
    have hlt6 := v6.lt
    have HT6 := hide (Turn.two HT5.out.1 HT5.out.2 ht6 hm6)
    clear cn j0 j1 j2 j3 j4 j5 j6 j7 j8 j9 v5 h5 ht6 hm6 HT5
    obtain ⟨j0, j1, j2, j3, j4, j5, j6, j7, j8, j9⟩ := v6.cells
    dsimp only at j0 j1 j2 j3 j4 j5 j6 j7 j8 j9
    have cb := wbytes_far base b B mg6 _ A n c l w6 h6 hsz6 (by simp only [List.length_append]; omega) (fun W hT => HFAR.out W (Turn.ahead HW.out (HT6.out.1.trans hT HT6.out.2))) (by omega)
    go_wp2_with fail
    refine cb.mono ?_
    rintro e w7 ⟨rfl, mg7, h7, ht7, hm7⟩
    have HT7 := hide (Turn.two HT6.out.1 HT6.out.2 ht7 hm7)
    rw [HE.out] at h7
    have hw : WroteP w base b mg (L ++ formC (Cx.m ⟨2, p, num, vn, A, n, c, l, xv⟩)) (.returned (.tuple #[])) w7 := WroteP.ahead HW.out ⟨rfl, mg7, h7, HT7.out.1, HT7.out.2⟩
    have HR := hide hw
    clear hw cb j0 j1 j2 j3 j4 j5 j6 j7 j8 j9 v6 h6 ht7 hm7 HT6 h7
    go_wp2
    first | go_end0 | refine bodyPost_ret (results_none rfl _ _ _) rfl ?_
    exact HR.out
  have q2 : (kind == 2) = false := by rw [beq_eq_false_iff_ne]; exact k2
  have k3 : kind = 3 := by
    rcases HB.out.kind with e | e | e
    · exact absurd e k1
    · exact absurd e k2
    · exact e
  subst k3
  have hmv := ((but3 rfl).1 HB.out).1
  simp only [Cx.m] at hmv
  have e1 : L ++ shortL 3 ++ viewL xv.v = L ++ formC (Cx.m ⟨3, p, num, vn, A, n, c, l, xv⟩) := by
    unfold formC tailC Cx.m
    simp [List.append_assoc]
  have HE := hide e1
  clear e1
  have s1 := (shortL_len 3).2
  have cw : Calls Tryz.prog 150 #[.pointer (some ⟨b, 0, none⟩), .int .u64 3] w2 (WroteP w2 base b mg (L ++ shortL 3)) := wnum_any base b mg L 3 w2 hw2 hsz2 (by omega) (by decide)
  go_wp2_with fail
  refine cw.mono ?_
  rintro e w3 ⟨rfl, mg3, h3, ht3, hm3⟩
  have v3 := v2.turn ht3 n1 n2
  have low3 := low2.trans (hw2.turned ht3 hsz2)
  have hsz3 := Nat.le_trans hsz2 ht3.size
  clear cw j0 j1 j2 j3 j4 j5 j6 j7 j8 j9 v2
  obtain ⟨j0, j1, j2, j3, j4, j5, j6, j7, j8, j9⟩ := v3.cells
  dsimp only at j0 j1 j2 j3 j4 j5 j6 j7 j8 j9
  have cv := vput_any xv base b Bv mg3 _ w3 h3 hsz3 (by simp only [List.length_append]; omega) (hvw.below (low3.mono hB)) hB hsy.v hmv
  have HT3 := hide (And.intro ht3 hm3)
  clear ht3 hm3
  go_wp2_with fail
  refine cv.mono ?_
  rintro e w4 ⟨rfl, mg4, h4, ht4, hm4⟩
  have HT4 := hide (Turn.two HT3.out.1 HT3.out.2 ht4 hm4)
  rw [HE.out] at h4
  have hw : WroteP w base b mg (L ++ formC (Cx.m ⟨3, p, num, vn, A, n, c, l, xv⟩)) (.returned (.tuple #[])) w4 := WroteP.ahead HW.out ⟨rfl, mg4, h4, HT4.out.1, HT4.out.2⟩
  have HR := hide hw
  clear hw cv j0 j1 j2 j3 j4 j5 j6 j7 j8 j9 v3 h3 ht4 hm4 HT3 h4
  go_wp2
  first | go_end0 | refine bodyPost_ret (results_none rfl _ _ _) rfl ?_
  exact HR.out
theorem cput_any (y : Cx) (base b B : Nat) (mg : Option Nat) (L : List UInt8) (w : World) (h : WrAt w base b mg L) (hbase : base ≤ w.heap.size) (hn : L.length ≤ 500000) (hy : CxIn w B y) (hB : B ≤ base) (hsy : CSmall y) (hmay : MayC y.m) :
    Calls Tryz.prog 154 #[.pointer (some ⟨b, 0, none⟩), .agg #[.int .i64 y.kind, .int .u16 y.p.i, .int .u32 y.p.k, .int .u64 y.num, .int .u64 y.vn, .slice y.A y.n y.c, .int .u64 y.x.id, .slice y.x.A y.x.m y.x.c, .slice y.x.B y.x.d y.x.e, .slice y.x.C y.x.f y.x.g]] w (WroteP w base b mg (L ++ formC y.m)) :=
  cput_far y base b B B mg L w h hbase hn hy (Nat.le_trans hB hbase) (fun W hT => hy.bs.below (hT.below (Nat.le_trans hB hbase) (Nat.le_trans hB h.1) (fun g hg => Nat.le_trans hB (h.mlt g hg).1))) hy.vw hB hsy hmay
end Go.Proofs.YtjmkecaljkcoiaaGreatDoor
