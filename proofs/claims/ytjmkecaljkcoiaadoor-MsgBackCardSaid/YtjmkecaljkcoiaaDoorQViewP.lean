import Derived.Test.YtjmkecaljkcoiaaDoorQCmd2
import Derived.Test.YtjmkecaljkcoiaaDoorQViewO
import Derived.Test.YtjmkecaljkcoiaaDoorQViewD
namespace Go.Proofs.YtjmkecaljkcoiaaDoor
open Go.RowKit Go.Maps
set_option linter.unusedVariables false
set_option linter.unusedSimpArgs false
theorem ckE_no (n : Nat) : ckE false n = 1 := rfl
theorem ckE_long {n : Nat} (h : 200 < n) : ckE true n = 14 := by simp [ckE, h]
theorem ckE_ok {n : Nat} (h : ¬ 200 < n) : ckE true n = 0 := by simp [ckE, h]
set_option maxRecDepth 100000 in
theorem check9_any (y : Cx) (B : Nat) (w : World) (t : Bool) (h : CxIn w B y) (hs : VSmall y.x) (hB : B ≤ w.heap.size) (ht : t = true ↔ ButLen y.m) :
    Calls Tryd.prog 77 #[.agg #[.int .i64 y.kind, .int .u16 (y.p.i : Int), .int .u32 (y.p.k : Int), .int .u64 (y.num : Int), .int .u64 (y.vn : Int), .slice y.A y.n y.c, .int .u64 (y.x.id : Int), .slice y.x.A y.x.m y.x.c, .slice y.x.B y.x.d y.x.e, .slice y.x.C y.x.f y.x.g]] w fun e w' => e = .returned (.int .i64 (ckE t y.n)) ∧ Below w.heap.size w w' := by
  have hbz : Below w.heap.size w (w.alloc (.cells #[.int .i64 y.kind, .int .u16 (y.p.i : Int), .int .u32 (y.p.k : Int), .int .u64 (y.num : Int), .int .u64 (y.vn : Int), .slice y.A y.n y.c, .int .u64 (y.x.id : Int), .slice y.x.A y.x.m y.x.c, .slice y.x.B y.x.d y.x.e, .slice y.x.C y.x.f y.x.g] 35)) := (Below.refl _ _).alloc (Nat.le_refl _) _
  have v0 := CAt.mk_ w y
  have cm := mbf_any y B (w.alloc (.cells #[.int .i64 y.kind, .int .u16 (y.p.i : Int), .int .u32 (y.p.k : Int), .int .u64 (y.num : Int), .int .u64 (y.vn : Int), .slice y.A y.n y.c, .int .u64 (y.x.id : Int), .slice y.x.A y.x.m y.x.c, .slice y.x.B y.x.d y.x.e, .slice y.x.C y.x.f y.x.g] 35)) t (h.below (hbz.mono hB)) hs (Nat.le_trans hB hbz.size) ht
  clear h ht
  obtain ⟨kind, p, num, vn, A, n, c, l, xv⟩ := y
  obtain ⟨j0, j1, j2, j3, j4, j5, j6, j7, j8, j9⟩ := v0.cells
  dsimp only at *
  generalize hw1 : w.alloc (.cells #[.int .i64 kind, .int .u16 (p.i : Int), .int .u32 (p.k : Int), .int .u64 (num : Int), .int .u64 (vn : Int), .slice A n c, .int .u64 (xv.id : Int), .slice xv.A xv.m xv.c, .slice xv.B xv.d xv.e, .slice xv.C xv.f xv.g] 35) = w1 at *
  go_enter Tryd.func77, Tryd.ntmps77
  cases t
  · rw [ckE_no]
    go_wp2_with fail
    refine cm.mono ?_
    rintro e w2 ⟨rfl, hb⟩
    have hb2 := hbz.trans (hb.mono hbz.size)
    clear hw1 cm
    go_wp2
    go_ret
    exact ⟨rfl, hb2⟩
  · go_wp2_with fail
    refine cm.mono ?_
    rintro e w2 ⟨rfl, hb⟩
    have hb2 := hbz.trans (hb.mono hbz.size)
    have v2 := v0.later hb
    clear hw1 cm v0 j0 j1 j2 j3 j4 j5 j6 j7 j8 j9
    obtain ⟨j0, j1, j2, j3, j4, j5, j6, j7, j8, j9⟩ := v2.cells
    dsimp only at j0 j1 j2 j3 j4 j5 j6 j7 j8 j9
    by_cases hn : 200 < n
    · have HN := hide (ckE_long hn)
      have z1 : decide ((200 : Int) < (n : Int)) = true := decide_eq_true (by omega)
      clear hn
      go_wp2
      go_ret
      exact ⟨ret_int HN.out.symm, hb2⟩
    · have HN := hide (ckE_ok hn)
      have z1 : decide ((200 : Int) < (n : Int)) = false := decide_eq_false (by omega)
      clear hn
      go_wp2
      go_ret
      exact ⟨ret_int HN.out.symm, hb2⟩
def Great9P (w : World) (y : Cx) (e : Ending) (w' : World) : Prop := ∃ b : Bool, e = .returned (.bool b) ∧ (b = false → CSmall y) ∧ Below w.heap.size w w'
set_option maxRecDepth 100000 in
theorem great9_any (y : Cx) (B : Nat) (w : World) (h : CxIn w B y) (hB : B ≤ w.heap.size) :
    Calls Tryd.prog 24 #[.agg #[.int .i64 y.kind, .int .u16 (y.p.i : Int), .int .u32 (y.p.k : Int), .int .u64 (y.num : Int), .int .u64 (y.vn : Int), .slice y.A y.n y.c, .int .u64 (y.x.id : Int), .slice y.x.A y.x.m y.x.c, .slice y.x.B y.x.d y.x.e, .slice y.x.C y.x.f y.x.g]] w (Great9P w y) := by
  have hbz : Below w.heap.size w (w.alloc (.cells #[.int .i64 y.kind, .int .u16 (y.p.i : Int), .int .u32 (y.p.k : Int), .int .u64 (y.num : Int), .int .u64 (y.vn : Int), .slice y.A y.n y.c, .int .u64 (y.x.id : Int), .slice y.x.A y.x.m y.x.c, .slice y.x.B y.x.d y.x.e, .slice y.x.C y.x.f y.x.g] 35)) := (Below.refl _ _).alloc (Nat.le_refl _) _
  have v0 := CAt.mk_ w y
  have cg := great8_any y.x B (w.alloc (.cells #[.int .i64 y.kind, .int .u16 (y.p.i : Int), .int .u32 (y.p.k : Int), .int .u64 (y.num : Int), .int .u64 (y.vn : Int), .slice y.A y.n y.c, .int .u64 (y.x.id : Int), .slice y.x.A y.x.m y.x.c, .slice y.x.B y.x.d y.x.e, .slice y.x.C y.x.f y.x.g] 35)) (h.vw.below (hbz.mono hB)) (Nat.le_trans hB hbz.size)
  clear h
  unfold Great8P at cg
  obtain ⟨j0, j1, j2, j3, j4, j5, j6, j7, j8, j9⟩ := v0.cells
  by_cases hn : 400 < y.n
  · have z1 : decide ((400 : Int) < (y.n : Int)) = true := decide_eq_true (by omega)
    clear hn
    go_enter Tryd.func24, Tryd.ntmps24
    go_wp2
    go_ret
    exact ⟨true, rfl, (fun h => by cases h), hbz⟩
  · have z1 : decide ((400 : Int) < (y.n : Int)) = false := decide_eq_false (by omega)
    have hn2 : y.n ≤ 400 := by omega
    have HN := hide hn2
    clear hn hn2
    go_enter Tryd.func24, Tryd.ntmps24
    go_wp2_with fail
    refine cg.mono ?_
    rintro e w2 ⟨gb, rfl, hsm, hb⟩
    have hb2 := hbz.trans (hb.mono hbz.size)
    have HS := hide hsm
    clear hsm
    go_wp2
    go_ret
    exact ⟨gb, rfl, fun h => ⟨HN.out, HS.out h⟩, hb2⟩
end Go.Proofs.YtjmkecaljkcoiaaDoor
namespace Go.Proofs.YtjmkecaljkcoiaaDoor
open Go.RowKit Go.Maps
set_option linter.unusedVariables false
set_option linter.unusedSimpArgs false
theorem VAt.turn {w w' : World} {g b : Nat} {mg : Option Nat} {x : Vw} (h : VAt w g x) (ht : Turn w w' b mg) (h1 : g ≠ b) (h2 : some g ≠ mg) : VAt w' g x := (ht.block g h.lt h1 h2).trans h
set_option maxRecDepth 100000 in
set_option maxHeartbeats 4000000 in
theorem vput_any (x : Vw) (base b B : Nat) (mg : Option Nat) (L : List UInt8) (w : World) (h : WrAt w base b mg L) (hbase : base ≤ w.heap.size) (hn : L.length ≤ 1000000) (hx : VwIn w B x) (hB : B ≤ base) (hsx : VSmall x) (hmay : MayV x.v) :
    Calls Tryd.prog 70 #[.pointer (some ⟨b, 0, none⟩), .agg #[.int .u64 (x.id : Int), .slice x.A x.m x.c, .slice x.B x.d x.e, .slice x.C x.f x.g]] w (WroteP w base b mg (L ++ viewL x.v)) := by
  have hmf : ∀ (fn : Fn) (first cap : Array Value) (w : World), (Instr.makeFunc fn first cap).run Tryd.prog w = .ok (.func fn first cap) w := fun _ _ _ _ => rfl
  have hbz : Below w.heap.size w ((w.alloc (.cells #[.pointer (some ⟨b, 0, none⟩)] 64)).alloc (.cells #[.int .u64 (x.id : Int), .slice x.A x.m x.c, .slice x.B x.d x.e, .slice x.C x.f x.g] 33)) := ((Below.refl _ _).alloc (Nat.le_refl _) _).alloc (by simp) _
  have v1 := VAt.mk_ (w.alloc (.cells #[.pointer (some ⟨b, 0, none⟩)] 64)) x
  simp only [World.size_alloc] at v1
  have p1 : ((w.alloc (.cells #[.pointer (some ⟨b, 0, none⟩)] 64)).alloc (.cells #[.int .u64 (x.id : Int), .slice x.A x.m x.c, .slice x.B x.d x.e, .slice x.C x.f x.g] 33)).cell? ⟨w.heap.size, 0, none⟩ = some (.pointer (some ⟨b, 0, none⟩)) := by go_simp
  have hBw : B ≤ w.heap.size := Nat.le_trans hB hbase
  have hin := hx.below (hbz.mono hBw)
  have cg := check_any x B _ true hin hsx (Nat.le_trans hBw hbz.size) ⟨fun _ => hmay, fun _ => rfl⟩
  rw [show ckI true = 0 from rfl] at cg
  obtain ⟨j0, j1, j2, j3⟩ := v1.cells
  go_enter Tryd.func70, Tryd.ntmps70
  go_wp2_with fail
  refine cg.mono ?_
  rintro e w2 ⟨rfl, hb1⟩
  have hb2 := hbz.trans (hb1.mono hbz.size)
  have v2 := v1.later hb1
  have p2 := cellL p1 hb1
  obtain ⟨j0', j1', j2', j3'⟩ := v2.cells
  clear cg j0 j1 j2 j3 hin v1 p1 hb1 hbz
  have hin2 := hx.below (hb2.mono hBw)
  go_wp2_with fail
  refine (ranksOf_any x.A x.m x.c x.l B w2 hin2.es (Nat.le_trans hBw hb2.size) (by have := hsx.m; omega)).mono ?_
  rintro e w3 ⟨mb, rfl, hpl, hm1, hm2, hb3⟩
  have hb4 := hb2.trans (hb3.mono hb2.size)
  have v3 := v2.later hb3
  have p3 := cellL p2 hb3
  clear j0' j1' j2' j3' v2 p2 hin2
  have v4 := v3.alloc (.cells #[.map (some mb)] 139)
  have q4 : (w3.alloc (.cells #[.map (some mb)] 139)).cell? ⟨w3.heap.size, 0, none⟩ = some (.map (some mb)) := by go_simp
  have hb5 := hb4.alloc hb4.size (.cells #[.map (some mb)] 139)
  have p4 := cellL p3 ((Below.refl _ _).alloc (Nat.le_refl _) (.cells #[.map (some mb)] 139))
  have pl4 := hpl.alloc (.cells #[.map (some mb)] 139)
  have hsz : w.heap.size + 2 ≤ w3.heap.size := v3.lt
  have hs3 : (w3.alloc (.cells #[.map (some mb)] 139)).heap.size = w3.heap.size + 1 := by simp
  have hmb := hpl.lt
  obtain ⟨j0, j1, j2, j3⟩ := v4.cells
  have hlt := h.lt
  have hmlt := h.mlt
  have hl1 := hx.es.len
  have hl2 := hx.lv.len
  have hl3 := hx.dr.len
  have hmz := hsx.m
  have hdz := hsx.d
  have hfz := hsx.f
  have wd : IntKind.u64.wrap (x.d : Int) = (x.d : Int) := by rw [IntKind.wrap_u64]; omega
  have hpw : w.heap.size ≠ b ∧ some w.heap.size ≠ mg := ⟨by omega, fun e => by have := hmlt _ e.symm; omega⟩
  have hpv : w.heap.size + 1 ≠ b ∧ some (w.heap.size + 1) ≠ mg := ⟨by omega, fun e => by have := hmlt _ e.symm; omega⟩
  have hpm : w3.heap.size ≠ b ∧ some w3.heap.size ≠ mg := ⟨by omega, fun e => by have := hmlt _ e.symm; omega⟩
  have hpmb : mb ≠ b ∧ some mb ≠ mg := ⟨by have := hb2.size; omega, fun e => by have := hmlt _ e.symm; have := hb2.size; omega⟩
  have hpwlt : w.heap.size < w3.heap.size + 1 := by omega
  have hpvlt : w.heap.size + 1 < w3.heap.size + 1 := by omega
  have hpmlt : w3.heap.size < w3.heap.size + 1 := by omega
  have hpmblt : mb < w3.heap.size + 1 := by omega
  rw [← hs3] at hpwlt hpvlt hpmlt hpmblt
  have h4 := h.later hb5
  have hbase4 := Nat.le_trans hbase hb5.size
  clear hb3 hb4 v3 p3 hb2 hm1 hm2 hpl hs3 hsz hmb hlt hmlt
  go_wp2_with fail
  generalize (w3.alloc (.cells #[.map (some mb)] 139)) = w4 at *
  have kp := fun W (t : Turn w4 W b mg) => t.cell p4 hpw.1 hpw.2
  have kq := fun W (t : Turn w4 W b mg) => t.cell q4 hpm.1 hpm.2
  have kv := fun W (t : Turn w4 W b mg) => v4.turn t hpv.1 hpv.2
  have kl := fun W (t : Turn w4 W b mg) => pl4.turn t hpmb.1 hpmb.2
  have hx4 := hx.below (hb5.mono hBw)
  have kx := fun W (t : Turn w4 W b mg) => (hx4.more hB).below (h4.turned t hbase4)
  have HK := hide (And.intro kp (And.intro kq (And.intro kv kl)))
  clear kp kq kv kl p4 q4 v4 pl4 hx4
  refine (wnum_any base b mg L x.id w4 h4 hbase4 (by omega) hx.hid).mono ?_
  rintro e w5 ⟨rfl, mg5, h5, ht5, hm5⟩
  have hbase5 := Nat.le_trans hbase4 ht5.size
  have hs1 := (shortL_len x.id).2
  obtain ⟨L1, hL1⟩ : ∃ L1, L1 = L ++ shortL x.id := ⟨_, rfl⟩
  have hl5 : L1.length ≤ 1000010 := by rw [hL1, List.length_append]; omega
  rw [← hL1] at h5
  obtain ⟨i0, i1, i2, i3⟩ := (HK.out.2.2.1 w5 ht5).cells
  have cp := HK.out.1 w5 ht5
  clear j0 j1 j2 j3 h4
  go_wp2_with fail
  refine (wpids_any base b mg5 L1 x.A x.m x.c x.l w5 h5 hbase5 (by omega) (kx w5 ht5).es (by omega)).mono ?_
  rintro e w6 ⟨rfl, mg6, h6, ht6', hm6'⟩
  obtain ⟨ht6, hm6⟩ := Turn.two ht5 hm5 ht6' hm6'
  have hbase6 := Nat.le_trans hbase4 ht6.size
  have hs2 := (shortL_len x.m).2
  have hs2' := pidsL_len x.l
  obtain ⟨L2, hL2⟩ : ∃ L2, L2 = L1 ++ (shortL x.m ++ pidsL x.l) := ⟨_, rfl⟩
  have hl6 : L2.length ≤ 1000900 := by rw [hL2, List.length_append, List.length_append]; omega
  rw [← hL2] at h6
  clear i0 i1 i2 i3 cp h5 ht5 hm5 ht6' hm6'
  obtain ⟨i0, i1, i2, i3⟩ := (HK.out.2.2.1 w6 ht6).cells
  have cp := HK.out.1 w6 ht6
  go_wp2_with fail
  refine (wnum_any base b mg6 L2 x.d w6 h6 hbase6 (by omega) (by omega)).mono ?_
  rintro e w7 ⟨rfl, mg7, h7, ht7', hm7'⟩
  obtain ⟨ht7, hm7⟩ := Turn.two ht6 hm6 ht7' hm7'
  have hs3 := (shortL_len x.d).2
  obtain ⟨L3, hL3⟩ : ∃ L3, L3 = L2 ++ shortL x.d := ⟨_, rfl⟩
  have hl7 : L3.length ≤ 1001000 := by rw [hL3, List.length_append]; omega
  rw [← hL3] at h7
  clear i0 i1 i2 i3 cp h6 ht6 hm6 ht7' hm7'
  obtain ⟨i0, i1, i2, i3⟩ := (HK.out.2.2.1 w7 ht7).cells
  have HLL := hide (And.intro hL1 (And.intro hL2 hL3))
  clear hL1 hL2 hL3
  have H0 : WrAt w7 base b mg7 (L3 ++ lvsL x.l ((x.q.map Lf.l).take 0)) := by simpa [lvsL] using h7
  go_wp2_with fail
  go_loopw [32] (fun i wr => ∃ j : Nat, j ≤ x.d ∧ i = .int .i64 j ∧ ∃ mg', WrAt wr base b mg' (L3 ++ lvsL x.l ((x.q.map Lf.l).take j)) ∧ Turn w4 wr b mg ∧ Mov w4 mg mg') (fun i _ => x.d - (intOf i).toNat)
  case atStart => exact ⟨0, Nat.zero_le _, rfl, mg7, H0, ht7, hm7⟩
  case round =>
    clear H0 h7 ht7 hm7 i0 i1 i2 i3 hs1 hs2 hs2' hs3
    obtain ⟨j, hj, rfl, mg', h', ht', hm'⟩ := hrel
    have hlv : (lvsL x.l ((x.q.map Lf.l).take j)).length ≤ 410 * 40 := by
      have h1 := lvsL_len x.l ((x.q.map Lf.l).take j) (fun a ha => by
        obtain ⟨y, hy, rfl⟩ := List.mem_map.1 (List.mem_of_mem_take ha)
        have h2 := hsx.each y hy
        have h3 := ((kx wr ht').each y hy).es.len
        omega)
      have h2 : ((x.q.map Lf.l).take j).length ≤ j := List.length_take_le _ _
      have h3 : 410 * ((x.q.map Lf.l).take j).length ≤ 410 * 40 := Nat.mul_le_mul_left _ (by omega)
      omega
    have hln : (L3 ++ lvsL x.l ((x.q.map Lf.l).take j)).length ≤ 9000000 := by rw [List.length_append]; omega
    have hbase8 := Nat.le_trans hbase4 ht'.size
    have hx8 := kx wr ht'
    by_cases hlt : j < x.d
    · obtain ⟨ad, hl, hA9, hbl, hc⟩ := hx8.lv.at_ lfOk hlt
      have hstep := lvsL_take x.l (l := x.q.map Lf.l) (j := j) (by rw [List.length_map]; exact hl)
      rw [List.getElem_map] at hstep
      have hym := List.getElem_mem hl
      have hyin := hx8.each _ hym
      have hys := hsx.each _ hym
      have hyr := (hmay.lvs.each _ (List.mem_map.2 ⟨_, hym, rfl⟩)).2.1
      obtain ⟨y, hy⟩ : ∃ y, y = x.q[j] := ⟨_, rfl⟩
      rw [← hy] at hc hstep hyin hys hyr
      have c0 := lf_at hc
      have HS := hide hstep
      clear hy hstep hc hym hbl hlv
      go_wp2_with fail
      refine (put1_any base b w.heap.size w3.heap.size mb x.l.length base mg' _ x.l y.l y.A y.m y.c wr h' hbase8 hln hyin.es (Nat.le_refl _) (by omega) hyr (by omega) (HK.out.1 wr ht') (HK.out.2.1 wr ht') (HK.out.2.2.2 wr ht') ⟨hpw.1, hm'.ne hpw.2 hpwlt⟩ ⟨hpm.1, hm'.ne hpm.2 hpmlt⟩ ⟨hpmb.1, hm'.ne hpmb.2 hpmblt⟩).mono ?_
      rintro e w8 ⟨rfl, mg8, h8, ht8', hm8'⟩
      obtain ⟨ht8, hm8⟩ := Turn.two ht' hm' ht8' hm8'
      rw [List.append_assoc, ← HS.out] at h8
      clear ht8' hm8' ht' hm' h' hx8 hyin hys hyr c0 HS hA9
      go_wp2_with fail
      go_roundw
      case rel => exact ⟨j + 1, by omega, by go_num, mg8, h8, ht8, hm8⟩
      case measure => simp [intOf]; omega
    · have e9 : (x.q.map Lf.l).take j = x.q.map Lf.l := List.take_of_length_le (by rw [List.length_map]; omega)
      rw [e9] at h' hln
      obtain ⟨i0, i1, i2, i3⟩ := (HK.out.2.2.1 wr ht').cells
      have hmr : ∀ p ∈ x.r, p ∈ x.l := fun p hp => hmay.ldr.1 p hp
      clear e9 hlv
      go_wp2_with fail
      refine (put1_any base b w.heap.size w3.heap.size mb x.l.length base mg' _ x.l x.r x.C x.f x.g wr h' hbase8 hln hx8.dr (Nat.le_refl _) (by omega) hmr (by omega) (HK.out.1 wr ht') (HK.out.2.1 wr ht') (HK.out.2.2.2 wr ht') ⟨hpw.1, hm'.ne hpw.2 hpwlt⟩ ⟨hpm.1, hm'.ne hpm.2 hpmlt⟩ ⟨hpmb.1, hm'.ne hpmb.2 hpmblt⟩).mono ?_
      rintro e w8 ⟨rfl, mg8, h8, ht8', hm8'⟩
      obtain ⟨ht8, hm8⟩ := Turn.two ht' hm' ht8' hm8'
      have e10 : L3 ++ lvsL x.l (x.q.map Lf.l) ++ someL x.l x.r = L ++ viewL x.v := by
        rw [HLL.out.2.2, HLL.out.2.1, HLL.out.1]
        unfold viewL
        simp only [Vw.v, List.length_map, hl1, hl2, List.append_assoc]
      rw [e10] at h8
      have hw : WroteP w base b mg (L ++ viewL x.v) (.returned (.tuple #[])) w8 := WroteP.ahead hb5 ⟨rfl, mg8, h8, ht8, hm8⟩
      have HW := Lib.hid hw
      clear hw e10 h8 ht8 hm8 ht8' hm8' ht' hm' h' hx8 i0 i1 i2 i3
      go_wp2_with fail
      first | go_end0 | refine bodyPost_ret (results_none rfl _ _ _) rfl ?_
      exact HW.out
end Go.Proofs.YtjmkecaljkcoiaaDoor
