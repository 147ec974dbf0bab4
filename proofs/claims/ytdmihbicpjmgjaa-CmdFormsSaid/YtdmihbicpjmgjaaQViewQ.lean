/-
  Layer 8: the contract of Put.
-/
import Derived.Test.YtdmihbicpjmgjaaQViewO
import Derived.Test.YtdmihbicpjmgjaaQViewA
import Derived.Test.YtdmihbicpjmgjaaQCmdM
namespace Go.Proofs.Ytdmihbicpjmgjaa
open Go.RowKit Go.Maps
set_option linter.unusedVariables false
set_option linter.unusedSimpArgs false

theorem VAt.turn {w w' : World} {g b : Nat} {mg : Option Nat} {x : Vw} (h : VAt w g x) (ht : Turn w w' b mg) (h1 : g ≠ b) (h2 : some g ≠ mg) : VAt w' g x := (ht.block g h.lt h1 h2).trans h
set_option maxRecDepth 100000 in
set_option maxHeartbeats 4000000 in
theorem vput_any (x : Vw) (base b B : Nat) (mg : Option Nat) (L : List UInt8) (w : World) (h : WrAt w base b mg L) (hbase : base ≤ w.heap.size) (hn : L.length ≤ 1000000) (hx : VwIn w B x) (hB : B ≤ base) (hsx : VSmall x) (hmay : MayV x.v) :
    Calls Try.prog 27 #[.pointer (some ⟨b, 0, none⟩), .agg #[.int .u64 (x.id : Int), .slice x.A x.m x.c, .slice x.B x.d x.e, .slice x.C x.f x.g]] w (WroteP w base b mg (L ++ viewL x.v)) := by
  have hmf : ∀ (fn : Fn) (first cap : Array Value) (w : World), (Instr.makeFunc fn first cap).run Try.prog w = .ok (.func fn first cap) w := fun _ _ _ _ => rfl
  have hbz : Below w.heap.size w ((w.alloc (.cells #[.pointer (some ⟨b, 0, none⟩)] 36)).alloc (.cells #[.int .u64 (x.id : Int), .slice x.A x.m x.c, .slice x.B x.d x.e, .slice x.C x.f x.g] 31)) := ((Below.refl _ _).alloc (Nat.le_refl _) _).alloc (by simp) _
  have v1 := VAt.mk_ (w.alloc (.cells #[.pointer (some ⟨b, 0, none⟩)] 36)) x
  simp only [World.size_alloc] at v1
  have p1 : ((w.alloc (.cells #[.pointer (some ⟨b, 0, none⟩)] 36)).alloc (.cells #[.int .u64 (x.id : Int), .slice x.A x.m x.c, .slice x.B x.d x.e, .slice x.C x.f x.g] 31)).cell? ⟨w.heap.size, 0, none⟩ = some (.pointer (some ⟨b, 0, none⟩)) := by go_simp
  have hBw : B ≤ w.heap.size := Nat.le_trans hB hbase
  have hin := hx.below (hbz.mono hBw)
  have cg := check_any x B _ true hin hsx (Nat.le_trans hBw hbz.size) ⟨fun _ => hmay, fun _ => rfl⟩
  rw [show ckI true = 0 from rfl] at cg
  obtain ⟨j0, j1, j2, j3⟩ := v1.cells
  go_enter Try.func27, Try.ntmps27
  go_wp2_with fail
  refine cg.mono ?_
  rintro e w2 ⟨rfl, hb1⟩
  have hb2 := hbz.trans (hb1.mono hbz.size)
  have v2 := v1.later hb1
  have p2 := cellL p1 hb1
  obtain ⟨j0', j1', j2', j3'⟩ := v2.cells
  clear cg j0 j1 j2 j3 hin v1 p1 hb1 hbz
  have hin2 := hx.below (hb2.mono hBw)
  go_wp2_with fail
  refine (ranksOf_any x.A x.m x.c x.l B w2 hin2.es (Nat.le_trans hBw hb2.size) (by have := hsx.m; omega)).mono ?_
  rintro e w3 ⟨mb, rfl, hpl, hm1, hm2, hb3⟩
  have hb4 := hb2.trans (hb3.mono hb2.size)
  have v3 := v2.later hb3
  have p3 := cellL p2 hb3
  clear j0' j1' j2' j3' v2 p2 hin2
  have v4 := v3.alloc (.cells #[.map (some mb)] 81)
  have q4 : (w3.alloc (.cells #[.map (some mb)] 81)).cell? ⟨w3.heap.size, 0, none⟩ = some (.map (some mb)) := by go_simp
  have hb5 := hb4.alloc hb4.size (.cells #[.map (some mb)] 81)
  have p4 := cellL p3 ((Below.refl _ _).alloc (Nat.le_refl _) (.cells #[.map (some mb)] 81))
  have pl4 := hpl.alloc (.cells #[.map (some mb)] 81)
  have hsz : w.heap.size + 2 ≤ w3.heap.size := v3.lt
  have hs3 : (w3.alloc (.cells #[.map (some mb)] 81)).heap.size = w3.heap.size + 1 := by simp
  have hmb := hpl.lt
  obtain ⟨j0, j1, j2, j3⟩ := v4.cells
  have hlt := h.lt
  have hmlt := h.mlt
  have hl1 := hx.es.len
  have hl2 := hx.lv.len
  have hl3 := hx.dr.len
  have hmz := hsx.m
  have hdz := hsx.d
  have hfz := hsx.f
  have wd : IntKind.u64.wrap (x.d : Int) = (x.d : Int) := by rw [IntKind.wrap_u64]; omega
  have hpw : w.heap.size ≠ b ∧ some w.heap.size ≠ mg := ⟨by omega, fun e => by have := hmlt _ e.symm; omega⟩
  have hpv : w.heap.size + 1 ≠ b ∧ some (w.heap.size + 1) ≠ mg := ⟨by omega, fun e => by have := hmlt _ e.symm; omega⟩
  have hpm : w3.heap.size ≠ b ∧ some w3.heap.size ≠ mg := ⟨by omega, fun e => by have := hmlt _ e.symm; omega⟩
  have hpmb : mb ≠ b ∧ some mb ≠ mg := ⟨by have := hb2.size; omega, fun e => by have := hmlt _ e.symm; have := hb2.size; omega⟩
  have hpwlt : w.heap.size < w3.heap.size + 1 := by omega
  have hpvlt : w.heap.size + 1 < w3.heap.size + 1 := by omega
  have hpmlt : w3.heap.size < w3.heap.size + 1 := by omega
  have hpmblt : mb < w3.heap.size + 1 := by omega
  rw [← hs3] at hpwlt hpvlt hpmlt hpmblt
  have h4 := h.later hb5
  have hbase4 := Nat.le_trans hbase hb5.size
  clear hb3 hb4 v3 p3 hb2 hm1 hm2 hpl hs3 hsz hmb hlt hmlt
  go_wp2_with fail
  generalize (w3.alloc (.cells #[.map (some mb)] 81)) = w4 at *
  have kp := fun W (t : Turn w4 W b mg) => t.cell p4 hpw.1 hpw.2
  have kq := fun W (t : Turn w4 W b mg) => t.cell q4 hpm.1 hpm.2
  have kv := fun W (t : Turn w4 W b mg) => v4.turn t hpv.1 hpv.2
  have kl := fun W (t : Turn w4 W b mg) => pl4.turn t hpmb.1 hpmb.2
  have hx4 := hx.below (hb5.mono hBw)
  have kx := fun W (t : Turn w4 W b mg) => (hx4.more hB).below (h4.turned t hbase4)
  have HK := hide (And.intro kp (And.intro kq (And.intro kv kl)))
  clear kp kq kv kl p4 q4 v4 pl4 hx4
  refine (wnum_any base b mg L x.id w4 h4 hbase4 (by omega) hx.hid).mono ?_
  rintro e w5 ⟨rfl, mg5, h5, ht5, hm5⟩
  have hbase5 := Nat.le_trans hbase4 ht5.size
  have hs1 := (shortL_len x.id).2
  obtain ⟨L1, hL1⟩ : ∃ L1, L1 = L ++ shortL x.id := ⟨_, rfl⟩
  have hl5 : L1.length ≤ 1000010 := by rw [hL1, List.length_append]; omega
  rw [← hL1] at h5
  obtain ⟨i0, i1, i2, i3⟩ := (HK.out.2.2.1 w5 ht5).cells
  have cp := HK.out.1 w5 ht5
  clear j0 j1 j2 j3 h4
  go_wp2_with fail
  refine (wpids_any base b mg5 L1 x.A x.m x.c x.l w5 h5 hbase5 (by omega) (kx w5 ht5).es (by omega)).mono ?_
  rintro e w6 ⟨rfl, mg6, h6, ht6', hm6'⟩
  obtain ⟨ht6, hm6⟩ := Turn.two ht5 hm5 ht6' hm6'
  have hbase6 := Nat.le_trans hbase4 ht6.size
  have hs2 := (shortL_len x.m).2
  have hs2' := pidsL_len x.l
  obtain ⟨L2, hL2⟩ : ∃ L2, L2 = L1 ++ (shortL x.m ++ pidsL x.l) := ⟨_, rfl⟩
  have hl6 : L2.length ≤ 1000900 := by rw [hL2, List.length_append, List.length_append]; omega
  rw [← hL2] at h6
  clear i0 i1 i2 i3 cp h5 ht5 hm5 ht6' hm6'
  obtain ⟨i0, i1, i2, i3⟩ := (HK.out.2.2.1 w6 ht6).cells
  have cp := HK.out.1 w6 ht6
  go_wp2_with fail
  refine (wnum_any base b mg6 L2 x.d w6 h6 hbase6 (by omega) (by omega)).mono ?_
  rintro e w7 ⟨rfl, mg7, h7, ht7', hm7'⟩
  obtain ⟨ht7, hm7⟩ := Turn.two ht6 hm6 ht7' hm7'
  have hs3 := (shortL_len x.d).2
  obtain ⟨L3, hL3⟩ : ∃ L3, L3 = L2 ++ shortL x.d := ⟨_, rfl⟩
  have hl7 : L3.length ≤ 1001000 := by rw [hL3, List.length_append]; omega
  rw [← hL3] at h7
  clear i0 i1 i2 i3 cp h6 ht6 hm6 ht7' hm7'
  obtain ⟨i0, i1, i2, i3⟩ := (HK.out.2.2.1 w7 ht7).cells
  have HLL := hide (And.intro hL1 (And.intro hL2 hL3))
  clear hL1 hL2 hL3
  have H0 : WrAt w7 base b mg7 (L3 ++ lvsL x.l ((x.q.map Lf.l).take 0)) := by simpa [lvsL] using h7
  go_wp2_with fail
  go_loopw [32] (fun i wr => ∃ j : Nat, j ≤ x.d ∧ i = .int .i64 j ∧ ∃ mg', WrAt wr base b mg' (L3 ++ lvsL x.l ((x.q.map Lf.l).take j)) ∧ Turn w4 wr b mg ∧ Mov w4 mg mg') (fun i _ => x.d - (intOf i).toNat)
  case atStart => exact ⟨0, Nat.zero_le _, rfl, mg7, H0, ht7, hm7⟩
  case round =>
    clear H0 h7 ht7 hm7 i0 i1 i2 i3 hs1 hs2 hs2' hs3
    obtain ⟨j, hj, rfl, mg', h', ht', hm'⟩ := hrel
    have hlv : (lvsL x.l ((x.q.map Lf.l).take j)).length ≤ 410 * 40 := by
      have h1 := lvsL_len x.l ((x.q.map Lf.l).take j) (fun a ha => by
        obtain ⟨y, hy, rfl⟩ := List.mem_map.1 (List.mem_of_mem_take ha)
        have h2 := hsx.each y hy
        have h3 := ((kx wr ht').each y hy).es.len
        omega)
      have h2 : ((x.q.map Lf.l).take j).length ≤ j := List.length_take_le _ _
      have h3 : 410 * ((x.q.map Lf.l).take j).length ≤ 410 * 40 := Nat.mul_le_mul_left _ (by omega)
      omega
    have hln : (L3 ++ lvsL x.l ((x.q.map Lf.l).take j)).length ≤ 9000000 := by rw [List.length_append]; omega
    have hbase8 := Nat.le_trans hbase4 ht'.size
    have hx8 := kx wr ht'
    by_cases hlt : j < x.d
    · obtain ⟨ad, hl, hA9, hbl, hc⟩ := hx8.lv.at_ lfOk hlt
      have hstep := lvsL_take x.l (l := x.q.map Lf.l) (j := j) (by rw [List.length_map]; exact hl)
      rw [List.getElem_map] at hstep
      have hym := List.getElem_mem hl
      have hyin := hx8.each _ hym
      have hys := hsx.each _ hym
      have hyr := (hmay.lvs.each _ (List.mem_map.2 ⟨_, hym, rfl⟩)).2.1
      obtain ⟨y, hy⟩ : ∃ y, y = x.q[j] := ⟨_, rfl⟩
      rw [← hy] at hc hstep hyin hys hyr
      have c0 := lf_at hc
      have HS := hide hstep
      clear hy hstep hc hym hbl hlv
      go_wp2_with fail
      refine (put1_any base b w.heap.size w3.heap.size mb x.l.length base mg' _ x.l y.l y.A y.m y.c wr h' hbase8 hln hyin.es (Nat.le_refl _) (by omega) hyr (by omega) (HK.out.1 wr ht') (HK.out.2.1 wr ht') (HK.out.2.2.2 wr ht') ⟨hpw.1, hm'.ne hpw.2 hpwlt⟩ ⟨hpm.1, hm'.ne hpm.2 hpmlt⟩ ⟨hpmb.1, hm'.ne hpmb.2 hpmblt⟩).mono ?_
      rintro e w8 ⟨rfl, mg8, h8, ht8', hm8'⟩
      obtain ⟨ht8, hm8⟩ := Turn.two ht' hm' ht8' hm8'
      rw [List.append_assoc, ← HS.out] at h8
      clear ht8' hm8' ht' hm' h' hx8 hyin hys hyr c0 HS hA9
      go_wp2_with fail
      go_roundw
      case rel => exact ⟨j + 1, by omega, by go_num, mg8, h8, ht8, hm8⟩
      case measure => simp [intOf]; omega
    · have e9 : (x.q.map Lf.l).take j = x.q.map Lf.l := List.take_of_length_le (by rw [List.length_map]; omega)
      rw [e9] at h' hln
      obtain ⟨i0, i1, i2, i3⟩ := (HK.out.2.2.1 wr ht').cells
      have hmr : ∀ p ∈ x.r, p ∈ x.l := fun p hp => hmay.ldr.1 p hp
      clear e9 hlv
      go_wp2_with fail
      refine (put1_any base b w.heap.size w3.heap.size mb x.l.length base mg' _ x.l x.r x.C x.f x.g wr h' hbase8 hln hx8.dr (Nat.le_refl _) (by omega) hmr (by omega) (HK.out.1 wr ht') (HK.out.2.1 wr ht') (HK.out.2.2.2 wr ht') ⟨hpw.1, hm'.ne hpw.2 hpwlt⟩ ⟨hpm.1, hm'.ne hpm.2 hpmlt⟩ ⟨hpmb.1, hm'.ne hpmb.2 hpmblt⟩).mono ?_
      rintro e w8 ⟨rfl, mg8, h8, ht8', hm8'⟩
      obtain ⟨ht8, hm8⟩ := Turn.two ht' hm' ht8' hm8'
      have e10 : L3 ++ lvsL x.l (x.q.map Lf.l) ++ someL x.l x.r = L ++ viewL x.v := by
        rw [HLL.out.2.2, HLL.out.2.1, HLL.out.1]
        unfold viewL
        simp only [Vw.v, List.length_map, hl1, hl2, List.append_assoc]
      rw [e10] at h8
      have hw : WroteP w base b mg (L ++ viewL x.v) (.returned (.tuple #[])) w8 := WroteP.ahead hb5 ⟨rfl, mg8, h8, ht8, hm8⟩
      have HW := Lib.hid hw
      clear hw e10 h8 ht8 hm8 ht8' hm8' ht' hm' h' hx8 i0 i1 i2 i3
      go_wp2_with fail
      first | go_end0 | refine bodyPost_ret (results_none rfl _ _ _) rfl ?_
      exact HW.out
end Go.Proofs.Ytdmihbicpjmgjaa
namespace Go.Proofs.Ytdmihbicpjmgjaa
open Go.RowKit Go.Maps
set_option linter.unusedVariables false
set_option linter.unusedSimpArgs false

theorem rkL_drop (mem : List Pr) {l : List Pr} {j : Nat} (h : j < l.length) (t : List UInt8) : rkL mem (l.drop j) ++ t = shortL (plc mem l[j]) ++ (rkL mem (l.drop (j + 1)) ++ t) := by
  rw [List.drop_eq_getElem_cons h, rkL, List.append_assoc]
set_option maxRecDepth 100000 in
set_option maxHeartbeats 4000000 in
theorem getsome_any (b n c : Nat) (A : Option Addr) (mem l : List Pr) (t : List UInt8) (w : World) (h : RdAt w b (someL mem l ++ t) 0)
    (hM : ∀ W, Turn w W b none → Es prC W W.heap.size A n mem) (hn : n ≤ 40) (hl : l.length ≤ 24) (hmem : ∀ p ∈ l, p ∈ mem) :
    Calls Try.prog 72 #[.pointer (some ⟨b, 0, none⟩), .slice A n c] w (ReadsPs w b l.length l t) := by
  obtain ⟨i0, hi, hz0, hz1, hz2⟩ := info_parts info_pid
  have hmn := (hM w (Turn.refl _ _ _)).len
  have hlt := h.lt
  unfold someL at h
  rw [List.append_assoc] at h
  have cn := rdnum_front b l.length 24 (rkL mem l ++ t) w h hl (by decide)
  have HM := hide (And.intro hM hmem)
  clear hM hmem h
  go_enter Try.func72, Try.ntmps72
  go_wp2_with fail
  refine cn.mono ?_
  rintro e w2 ⟨rfl, h2, ht2⟩
  clear cn
  go_wp2
  go_loopw [5, 8] (fun v i wr => ∃ (j : Nat) (A' : Option Addr) (c' : Nat), j ≤ l.length ∧ i = .int .u64 j ∧ v = .slice A' j c' ∧ OwnP wr w.heap.size (.slice A' j c') j (l.take j) ∧ RdAt wr b (rkL mem (l.drop j) ++ t) 0 ∧ Turn w wr b none) (fun _ i _ => l.length - (intOf i).toNat)
  case atStart => exact ⟨0, none, 0, Nat.zero_le _, rfl, rfl, OwnE.nil_ _ _, by simpa using h2, ht2⟩
  case round =>
    clear h2 ht2
    obtain ⟨j, A', c', hj, rfl, rfl, hO, hR, hT⟩ := hrel
    have hsz := hT.size
    by_cases hjl : j < l.length
    · rw [rkL_drop mem hjl t] at hR
      have hqm : l[j] ∈ mem := HM.out.2 _ (List.getElem_mem hjl)
      have hst := List.take_succ_eq_append_getElem hjl
      obtain ⟨q, hq⟩ : ∃ q, q = l[j] := ⟨_, rfl⟩
      rw [← hq] at hR hqm hst
      have hk := plc_lt hqm
      have hat := plc_at hqm
      obtain ⟨k, hke⟩ : ∃ k, k = plc mem q := ⟨_, rfl⟩
      rw [← hke] at hR hk hat
      obtain ⟨m, hm⟩ : ∃ m, n = m + 1 := ⟨n - 1, by omega⟩
      have e1 : ((n : Int) == 0) = false := by simp only [beq_eq_false_iff_ne, ne_eq]; omega
      have e2 : (n : Int) - 1 = (m : Int) := by omega
      have e3 : IntKind.u64.wrap (m : Int) = (m : Int) := by rw [IntKind.wrap_u64]; omega
      have e4 : IntKind.u64.wrap ((j : Int) + 1) = ((j + 1 : Nat) : Int) := by rw [IntKind.wrap_u64]; omega
      have cp := rdnum_front b k m (rkL mem (l.drop (j + 1)) ++ t) wr hR (by omega) (by omega)
      have x1 : (0 : Int) ≤ (k : Int) := by omega
      have x2 : (k : Int) < (n : Int) := by omega
      have x3 : k < n := by omega
      have HS := hide hst
      clear hst hke hR hqm hq hm
      go_wp2_with fail
      refine cp.mono ?_
      rintro e w3 ⟨rfl, h3, ht3⟩
      have hO3 := hO.turnLow ht3 hlt
      have hT3 := hT.trans ht3 (Mov.refl _ _)
      have hs3 := hT3.size
      obtain ⟨ad, hl2, rfl, hbl, hc⟩ := (HM.out.1 w3 hT3).at_ prOk x3
      rw [show mem[k] = q from Option.some.inj ((List.getElem?_eq_getElem hl2).symm.trans hat)] at hc
      obtain ⟨c0, c1⟩ := pr_at hc
      clear cp hO hT hc hat hbl ht3
      go_wp2_with (at_builtin; refine wp_append_e _ rfl (.tmp 15) (.tmp 25) 28 rfl 25 i0 _ 8 Try.underlying28 hi hz0 ‹_› hz2 rfl prOk w.heap.size j _ (l.take j) rfl (hO3.alloc _) (w3.heap.size + 1) _ 1 1 [q] rfl (es_pr w3 q _) (by unfold maxLen; omega) (by omega) 0 _ (Below.refl _ _) (Nat.zero_le _) (by simp; omega) ?_; intro A2 c2 w4 r1 r2 r3 r4; refine Hid.out ?_)
      have r5 : (w3.alloc (.cells #[.int .u16 (q.i : Int), .int .u32 (q.k : Int)] 25)).grownBy w4 (Value.slice A' j c').ownBlock := r4
      have r6 : OwnP w4 w.heap.size (.slice A2 (j + 1) c2) (j + 1) (l.take j ++ [q]) := r1
      rw [← HS.out] at r6
      have hT4 := (hT3.alloc (.cells #[.int .u16 (q.i : Int), .int .u32 (q.k : Int)] 25)).grownNew r5 (fun g hg => (hO3.lt g hg).1)
      have hR4 := (h3.alloc (.cells #[.int .u16 (q.i : Int), .int .u32 (q.k : Int)] 25)).grown r5 (fun g hg => by have := (hO3.lt g hg).1; omega)
      have HR := hide (And.intro r6 (And.intro hR4 hT4))
      refine Lib.hid ?_
      clear r1 r2 r3 r4 r5 r6 hT4 hR4 hO3 hT3 h3 HS c0 c1
      go_wp2_with fail
      go_roundw
      case rel => exact ⟨j + 1, A2, c2, by omega, by go_num, rfl, HR.out⟩
      case measure => simp [intOf]; omega
    · have hjj : j = l.length := by omega
      have e5 : l.take j = l := List.take_of_length_le (by omega)
      have e6 : rkL mem (l.drop j) ++ t = t := by rw [List.drop_eq_nil_of_le (by omega)]; rfl
      rw [e5] at hO
      rw [e6] at hR
      clear e5 e6
      subst hjj
      have hw : ReadsPs w b l.length l t (.returned (.slice A' l.length c')) wr := ⟨A', c', rfl, hO, hR, hT⟩
      have HW := Lib.hid hw
      clear hw hO hR hT
      go_wp2
      go_ret
      exact HW.out
end Go.Proofs.Ytdmihbicpjmgjaa
