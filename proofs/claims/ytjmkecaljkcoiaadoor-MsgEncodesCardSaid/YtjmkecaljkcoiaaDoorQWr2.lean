import Derived.Deep.RegionHeld3
import Derived.Test.YtjmkecaljkcoiaaDoorQOpenT
namespace Go.Proofs.YtjmkecaljkcoiaaDoor
open Go.RowKit
set_option linter.unusedVariables false
set_option linter.unusedSimpArgs false
set_option maxRecDepth 100000 in
theorem wballot_any (base b : Nat) (mg : Option Nat) (L : List UInt8) (r i k : Nat) (w : World) (h : WrAt w base b mg L) (hbase : base ≤ w.heap.size) (hn : L.length ≤ 9000000) (hr : r < 4294967296) (hi : i < 65536) (hk : k < 4294967296) :
    Calls Tryd.prog 67 #[.pointer (some ⟨b, 0, none⟩), .agg #[.int .u32 (r : Int), .int .u16 (i : Int), .int .u32 (k : Int)]] w (WroteP w base b mg (L ++ (shortL r ++ pidL i k))) := by
  have hb1 : Below w.heap.size w (w.alloc (.cells #[.int .u32 (r : Int), .int .u16 (i : Int), .int .u32 (k : Int)] 28)) := (Below.refl _ _).alloc (Nat.le_refl _) _
  have d0 : (w.alloc (.cells #[.int .u32 (r : Int), .int .u16 (i : Int), .int .u32 (k : Int)] 28)).cell? ⟨w.heap.size, 0, none⟩ = some (.int .u32 (r : Int)) := by go_simp
  have d1 : (w.alloc (.cells #[.int .u32 (r : Int), .int .u16 (i : Int), .int .u32 (k : Int)] 28)).cell? ⟨w.heap.size, 1, none⟩ = some (.int .u16 (i : Int)) := by go_simp
  have d2 : (w.alloc (.cells #[.int .u32 (r : Int), .int .u16 (i : Int), .int .u32 (k : Int)] 28)).cell? ⟨w.heap.size, 2, none⟩ = some (.int .u32 (k : Int)) := by go_simp
  have hlt := h.lt
  have hml := h.mlt
  have wr : IntKind.u64.wrap (r : Int) = (r : Int) := by rw [IntKind.wrap_u64]; omega
  go_enter Tryd.func67, Tryd.ntmps67
  go_wp2_with fail
  generalize (w.alloc (.cells #[.int .u32 (r : Int), .int .u16 (i : Int), .int .u32 (k : Int)] 28)) = w1 at hb1 d0 d1 d2 ⊢
  have hs1 := hb1.size
  refine (wnum_any base b mg L r w1 (h.later hb1) (by omega) (by omega) (by omega)).mono ?_
  rintro e w2 ⟨rfl, mg2, h2, ht2, hm2⟩
  have f1 := ht2.cell d1 (by simp; omega) (fun e => by have := (hml _ e.symm).2.1; simp at this)
  have f2 := ht2.cell d2 (by simp; omega) (fun e => by have := (hml _ e.symm).2.1; simp at this)
  have hs2 := ht2.size
  clear d0 d1 d2
  have hl2 : (L ++ shortL r).length ≤ 10000000 := by rw [List.length_append]; have := (shortL_len r).2; omega
  go_wp2_with fail
  refine (wpid_any base b mg2 _ i k w2 h2 (by omega) hl2 hi hk).mono ?_
  rintro e w3 ⟨rfl, hw⟩
  have hz := WroteP.ahead hb1 (WroteP.two ht2 hm2 ⟨rfl, hw⟩)
  rw [List.append_assoc] at hz
  have HW := hide hz
  clear hz hw f1 f2
  go_wp2
  first | go_end0 | refine bodyPost_ret (results_none rfl _ _ _) rfl ?_
  exact HW.out
set_option maxRecDepth 100000 in
theorem wbytes_any (base b : Nat) (mg : Option Nat) (L : List UInt8) (A : Option Addr) (n c : Nat) (l : List UInt8) (w : World) (h : WrAt w base b mg L) (hbase : base ≤ w.heap.size) (hn : L.length ≤ 9000000) (hA : Bs w base A n l) (hm : n ≤ 9000000) :
    Calls Tryd.prog 71 #[.pointer (some ⟨b, 0, none⟩), .slice A n c] w (WroteP w base b mg (L ++ (shortL n ++ l))) := by
  have wr : IntKind.u64.wrap (n : Int) = (n : Int) := by rw [IntKind.wrap_u64]; omega
  go_enter Tryd.func71, Tryd.ntmps71
  go_wp2_with fail
  refine (wnum_any base b mg L n w h hbase (by omega) (by omega)).mono ?_
  rintro e w2 ⟨rfl, mg2, h2, ht2, hm2⟩
  have hA2 := hA.below (h.turned ht2 hbase)
  have hs2 := ht2.size
  have hl2 : (L ++ shortL n).length ≤ 10000000 := by rw [List.length_append]; have := (shortL_len n).2; omega
  go_wp2_with fail
  refine (lay_any base b mg2 _ A n c l base w2 h2 hA2 (by omega) (by omega)).mono ?_
  rintro e w3 ⟨rfl, hw⟩
  have hz := WroteP.two ht2 hm2 ⟨rfl, hw⟩
  rw [List.append_assoc] at hz
  have HW := hide hz
  clear hz hw
  go_wp2
  first | go_end0 | refine bodyPost_ret (results_none rfl _ _ _) rfl ?_
  exact HW.out
theorem Turn.two {w w1 w2 : World} {b : Nat} {mg mg1 mg2 : Option Nat} (h1 : Turn w w1 b mg) (m1 : Mov w mg mg1) (h2 : Turn w1 w2 b mg1) (m2 : Mov w1 mg1 mg2) : Turn w w2 b mg ∧ Mov w mg mg2 := ⟨h1.trans h2 m1, m1.trans m2 h1.size⟩
set_option maxRecDepth 100000 in
theorem wpids_any (base b : Nat) (mg : Option Nat) (L : List UInt8) (A : Option Addr) (n c : Nat) (l : List Pr) (w : World) (h : WrAt w base b mg L) (hbase : base ≤ w.heap.size) (hn : L.length ≤ 9000000) (hA : Es prC w base A n l) (hm : n ≤ 1000) :
    Calls Tryd.prog 62 #[.pointer (some ⟨b, 0, none⟩), .slice A n c] w (WroteP w base b mg (L ++ (shortL n ++ pidsL l))) := by
  have wr : IntKind.u64.wrap (n : Int) = (n : Int) := by rw [IntKind.wrap_u64]; omega
  have hlen := hA.len
  have hpl := fun j => pidsL_len (l.take j)
  have hsl := (shortL_len n).2
  have HL := hide hlen
  have HP := hide hpl
  clear hlen hpl
  go_enter Tryd.func62, Tryd.ntmps62
  go_wp2_with fail
  refine (wnum_any base b mg L n w h hbase (by omega) (by omega)).mono ?_
  rintro e w2 ⟨rfl, mg2, h2, ht2, hm2⟩
  have H0 : WrAt w2 base b mg2 (L ++ (shortL n ++ pidsL (l.take 0))) := by simpa [pidsL] using h2
  go_wp2
  go_loopw [5, 13, 16] (fun x i y wr => ∃ j : Nat, j ≤ n ∧ i = .int .i64 j ∧ ∃ mg', WrAt wr base b mg' (L ++ (shortL n ++ pidsL (l.take j))) ∧ Turn w wr b mg ∧ Mov w mg mg') (fun _ i _ _ => n - (intOf i).toNat)
  case atStart => exact ⟨0, Nat.zero_le _, rfl, mg2, H0, ht2, hm2⟩
  case round =>
    obtain ⟨j, hj, rfl, mg', h', ht', hm'⟩ := hrel
    clear h2 ht2 hm2 H0
    by_cases hlt : j < n
    · obtain ⟨ad, hl, rfl, hbl, hc⟩ := (hA.below (h.turned ht' hbase)).at_ prOk hlt
      obtain ⟨q, hq⟩ : ∃ q, q = l[j] := ⟨_, rfl⟩
      rw [← hq] at hc
      obtain ⟨c0, c1⟩ := pr_at hc
      have hstep := pidsL_take hl
      rw [← hq] at hstep
      have HS := hide hstep
      have hs' := ht'.size
      clear hc hq hstep
      have hb1 : Below wr.heap.size wr (wr.alloc (.cells #[.int .u16 (q.i : Int), .int .u32 (q.k : Int)] 25)) := (Below.refl _ _).alloc (Nat.le_refl _) _
      have hl2 : (L ++ (shortL n ++ pidsL (l.take j))).length ≤ 10000000 := by
        have h1 := HP.out j
        have h2 : (l.take j).length ≤ j := List.length_take_le _ _
        rw [List.length_append, List.length_append]
        omega
      go_wp2_with fail
      refine (wpid_any base b mg' _ q.i q.k _ (h'.later hb1) (by simp; omega) hl2 q.hi q.hk).mono ?_
      rintro e w3 ⟨rfl, mg3, h3, ht3, hm3⟩
      rw [List.append_assoc, List.append_assoc, ← HS.out] at h3
      have hm3' : Mov wr mg' mg3 := by
        rcases hm3 with rfl | ⟨g, rfl, hg⟩
        · exact .inl rfl
        · exact .inr ⟨g, rfl, Nat.le_trans hb1.size hg⟩
      obtain ⟨ht4, hm4⟩ := Turn.two ht' hm' (Turn.ahead hb1 ht3) hm3'
      clear hb1 hl2 c0 c1 h' ht' hm' ht3 hm3 hm3'
      go_wp2
      go_roundw
      case rel => exact ⟨j + 1, by omega, by go_num, mg3, h3, ht4, hm4⟩
      case measure => simp [intOf]; omega
    · have e : l.take j = l := List.take_of_length_le (by rw [HL.out]; omega)
      rw [e] at h'
      have hw : WroteP w base b mg (L ++ (shortL n ++ pidsL l)) (.returned (.tuple #[])) wr := ⟨rfl, mg', h', ht', hm'⟩
      have HW := Lib.hid hw
      clear e h' ht' hm' hw
      go_wp2
      first | go_end0 | refine bodyPost_ret (results_none rfl _ _ _) rfl ?_
      exact HW.out
theorem wdone_any (base b : Nat) (mg : Option Nat) (L : List UInt8) (w : World) (h : WrAt w base b mg L) (hn : L.length ≤ 100000000) :
    Calls Tryd.prog 27 #[.pointer (some ⟨b, 0, none⟩)] w (MakesB w L) := by
  obtain ⟨hbb, A0, c0, hblk, hmg, hO⟩ := h
  have f0 : w.cell? ⟨b, 0, none⟩ = some (.slice A0 L.length c0) := cell_of_row w b 0 _ _ (0, 0) hblk
  go_enter Tryd.func27, Tryd.ntmps27
  go_wp2_with fail
  refine (clone_any A0 L.length c0 L _ w hO.bs (Nat.le_refl _) (by omega)).mono ?_
  rintro e w1 ⟨A1, c1, rfl, hO1, hb1⟩
  have HW := hide (⟨A1, c1, rfl, hO1, hb1⟩ : MakesB w L (.returned (.slice A1 L.length c1)) w1)
  clear hO1 hb1
  go_wp2
  go_ret
  exact HW.out
theorem rnum7_any (x : Nat) (w : World) (hx : x < 18446744073709551616) :
    Calls Tryd.prog 38 #[.int .u64 (x : Int)] w (MakesB w (shortL x)) := by
  go_enter Tryd.func38, Tryd.ntmps38
  go_wp2_with fail
  refine (rshort_any x w hx).mono ?_
  rintro e w1 ⟨A1, c1, rfl, hO1, hb1⟩
  have HW := hide (⟨A1, c1, rfl, hO1, hb1⟩ : MakesB w (shortL x) (.returned (.slice A1 (shortL x).length c1)) w1)
  clear hO1 hb1
  go_wp2
  go_ret
  exact HW.out
theorem rtruth7_any (t : Bool) (w : World) :
    Calls Tryd.prog 41 #[.bool t] w (MakesB w (boolL t)) := by
  cases t
  · have hw : MakesB w (boolL false) (.returned (.slice (some ⟨w.heap.size, 0, none⟩) 1 1)) (w.alloc (.cells #[.int .u8 0] 5)) := ⟨_, _, rfl, own_lit w _ 1 [0] _ (by rfl) rfl (by decide) (Nat.le_refl _), (Below.refl _ _).alloc (Nat.le_refl _) _⟩
    go_enter Tryd.func41, Tryd.ntmps41
    go_wp2
    go_ret
    exact hw
  · have hw : MakesB w (boolL true) (.returned (.slice (some ⟨w.heap.size, 0, none⟩) 1 1)) (w.alloc (.cells #[.int .u8 1] 5)) := ⟨_, _, rfl, own_lit w _ 1 [1] _ (by rfl) rfl (by decide) (Nat.le_refl _), (Below.refl _ _).alloc (Nat.le_refl _) _⟩
    go_enter Tryd.func41, Tryd.ntmps41
    go_wp2
    go_ret
    exact hw
set_option maxRecDepth 100000 in
theorem rballot7_any (r i k : Nat) (w : World) (hr : r < 4294967296) (hi : i < 65536) (hk : k < 4294967296) :
    Calls Tryd.prog 40 #[.agg #[.int .u32 (r : Int), .int .u16 (i : Int), .int .u32 (k : Int)]] w (MakesB w (shortL r ++ pidL i k)) := by
  have r1 := fun W => rnum7_any r W (by omega)
  have r2 := fun W => rpid_any i k W hi hk
  have hi10 := (shortL_len r).2
  have hk10 := pidL_len i k
  generalize shortL r = l1 at *
  generalize pidL i k = l2 at *
  go_enter Tryd.func40, Tryd.ntmps40
  go_wp2
  have f0 : (w.alloc (.cells #[.int .u32 (r : Int), .int .u16 (i : Int), .int .u32 (k : Int)] 28)).cell? ⟨w.heap.size, 0, none⟩ = some (.int .u32 (r : Int)) := by go_simp
  have f1 : (w.alloc (.cells #[.int .u32 (r : Int), .int .u16 (i : Int), .int .u32 (k : Int)] 28)).cell? ⟨w.heap.size, 1, none⟩ = some (.int .u16 (i : Int)) := by go_simp
  have f2 : (w.alloc (.cells #[.int .u32 (r : Int), .int .u16 (i : Int), .int .u32 (k : Int)] 28)).cell? ⟨w.heap.size, 2, none⟩ = some (.int .u32 (k : Int)) := by go_simp
  have hb : Below w.heap.size w (w.alloc (.cells #[.int .u32 (r : Int), .int .u16 (i : Int), .int .u32 (k : Int)] 28)) := ((Below.refl _ _).alloc (Nat.le_refl _) _)
  generalize (w.alloc (.cells #[.int .u32 (r : Int), .int .u16 (i : Int), .int .u32 (k : Int)] 28)) = w1 at f0 f1 f2 hb ⊢
  have hs1 := hb.size
  have g1 : w.heap.size < w1.heap.size := World.block_lt_of_cell? _ _ f0
  have wr : IntKind.u64.wrap (r : Int) = (r : Int) := by rw [IntKind.wrap_u64]; omega
  go_region_held3 (fun w' => w'.cell? ⟨w.heap.size, 0, none⟩ = some (.int .u32 (r : Int)) ∧ w'.cell? ⟨w.heap.size, 1, none⟩ = some (.int .u16 (i : Int)) ∧ w'.cell? ⟨w.heap.size, 2, none⟩ = some (.int .u32 (k : Int)))
    (first | exact ⟨f0, f1, f2⟩ | exact ⟨(hq2.cell g1).trans f0, (hq2.cell g1).trans f1, (hq2.cell g1).trans f2⟩ | exact ⟨(hq3.cell g1).trans f0, (hq3.cell g1).trans f1, (hq3.cell g1).trans f2⟩ | exact ⟨(hq4.cell g1).trans f0, (hq4.cell g1).trans f1, (hq4.cell g1).trans f2⟩)
    (first | ((with_reducible refine (r1 _).mono ?_); rintro e w2 ⟨A2, c2, rfl, ho2, hb2⟩; have hq2 : Below w1.heap.size w1 w2 := Below.trans ((Below.refl _ _).drew) hb2) | ((with_reducible refine (r2 _).mono ?_); rintro e w3 ⟨A3, c3, rfl, ho3, hb3⟩; have hq3 : Below w1.heap.size w1 w3 := hq2.trans (hb3.mono hq2.size)) | (refine step_bytes_own _ rfl (.tmp 6) (.tmp 9) rfl w1.heap.size l1.length _ l1 (by simp [Act.eval, Act.put]) (ho2.later hb3) _ A3 l2.length c3 l2 (by simp [Act.eval, Act.put]) ho3.bs (by omega) w1.heap.size w1 hq3 (Nat.le_refl _) hq3.size ?_; intro A4 c4 w4 ho4 hq4 _))
  have e1 : l1.length + l2.length = (l1 ++ l2).length := by rw [List.length_append]
  have hm : MakesB w (l1 ++ l2) (.returned (.slice A4 (l1.length + l2.length) c4)) w4 := ⟨A4, c4, by rw [e1], e1 ▸ ho4.mono hs1, hb.trans (hq4.mono hs1)⟩
  have HM := Lib.hid hm
  clear hm e1 ho4 hq4 ho2 ho3 hb2 hb3 hq2 hq3
  go_wp2
  go_ret
  exact HM.out
set_option maxRecDepth 100000 in
theorem rbytes7_any (A : Option Addr) (n c : Nat) (l : List UInt8) (B : Nat) (w : World) (hA : Bs w B A n l) (hB : B ≤ w.heap.size) (hm : n ≤ 140737488355000) :
    Calls Tryd.prog 44 #[.slice A n c] w (MakesB w (shortL n ++ l)) := by
  have r1 := fun W => rnum7_any n W (by omega)
  have wr : IntKind.u64.wrap (n : Int) = (n : Int) := by rw [IntKind.wrap_u64]; omega
  have hi10 := (shortL_len n).2
  have hlen := hA.len
  generalize shortL n = l1 at *
  have HL := hide hlen
  clear hlen
  go_enter Tryd.func44, Tryd.ntmps44
  go_wp2_with fail
  refine (r1 w).mono ?_
  rintro e w1 ⟨A1, c1, rfl, hO1, hb1⟩
  have hA1 := hA.below (hb1.mono hB)
  go_wp2_with (at_builtin; refine wp_bytes_own _ rfl (.tmp 6) (.tmp 7) rfl w.heap.size l1.length _ l1 rfl hO1 B A n c l rfl hA1 (by omega) w.heap.size w hb1 (Nat.le_refl _) hb1.size ?_)
  intro A2 c2 w2 hO2 hb2 hs2
  have e1 : l1.length + n = (l1 ++ l).length := by rw [List.length_append, HL.out]
  have hm : MakesB w (l1 ++ l) (.returned (.slice A2 (l1.length + n) c2)) w2 := ⟨A2, c2, by rw [e1], e1 ▸ hO2, hb2⟩
  have HM := Lib.hid hm
  clear hm e1 hO2 hb2 hO1 hb1
  go_wp2
  go_ret
  exact HM.out
set_option maxRecDepth 100000 in
theorem rpids7_any (A : Option Addr) (n c : Nat) (l : List Pr) (B : Nat) (w : World) (hA : Es prC w B A n l) (hB : B ≤ w.heap.size) (hm : n ≤ 1000) :
    Calls Tryd.prog 64 #[.slice A n c] w (MakesB w (shortL n ++ pidsL l)) := by
  have r1 := fun W => rnum7_any n W (by omega)
  have wr : IntKind.u64.wrap (n : Int) = (n : Int) := by rw [IntKind.wrap_u64]; omega
  have hi10 := (shortL_len n).2
  have hlen := hA.len
  have hpl := fun j => pidsL_len (l.take j)
  generalize shortL n = l1 at *
  have HL := hide hlen
  have HP := hide hpl
  clear hlen hpl
  go_enter Tryd.func64, Tryd.ntmps64
  go_wp2_with fail
  refine (r1 w).mono ?_
  rintro e w1 ⟨A1, c1, rfl, hO1, hb1⟩
  have H0 : OwnB w1 w.heap.size (.slice A1 l1.length c1) l1.length (l1 ++ pidsL (l.take 0)) := by simpa [pidsL] using hO1
  clear r1
  go_wp2
  go_loopw [3, 4] (fun v i wr => ∃ j : Nat, j ≤ n ∧ i = .int .i64 j ∧ ∃ A' m' c', v = .slice A' m' c' ∧ OwnB wr w.heap.size (.slice A' m' c') m' (l1 ++ pidsL (l.take j)) ∧ Below w.heap.size w wr) (fun _ i _ => n - (intOf i).toNat)
  case atStart => exact ⟨0, Nat.zero_le _, rfl, A1, _, c1, rfl, H0, hb1⟩
  case round =>
    obtain ⟨j, hj, rfl, A', m', c', rfl, hO, hb⟩ := hrel
    clear H0 hO1 hb1
    have hs := hb.size
    by_cases hlt : j < n
    · obtain ⟨ad, hl, rfl, hbl, hc⟩ := (hA.below (hb.mono hB)).at_ prOk hlt
      obtain ⟨q, hq⟩ : ∃ q, q = l[j] := ⟨_, rfl⟩
      rw [← hq] at hc
      obtain ⟨c0, c1⟩ := pr_at hc
      have hstep := pidsL_take hl
      rw [← hq] at hstep
      have HS := hide hstep
      clear hc hq hstep
      have hm' : m' ≤ 30000 := by
        have h1 := HP.out j
        have h2 : (l.take j).length ≤ j := List.length_take_le _ _
        rw [← hO.len, List.length_append]
        omega
      have hp20 := pidL_len q.i q.k
      go_wp2_with fail
      refine (rpid_any q.i q.k wr q.hi q.hk).mono ?_
      rintro e w3 ⟨A3, c3, rfl, hO3, hb3⟩
      have hO' := hO.later hb3
      have hb' := hb.trans (hb3.mono hs)
      have hbs := hO3.bs
      have hs3 := hb'.size
      clear hO hb hb3 hO3
      generalize pidL q.i q.k = l3 at *
      go_wp2_with (at_builtin; refine wp_bytes_own _ rfl (.tmp 15) (.tmp 20) rfl w.heap.size m' _ _ rfl hO' _ A3 l3.length c3 l3 rfl hbs (by omega) w.heap.size w hb' (Nat.le_refl _) hs3 ?_)
      intro A4 c4 w4 hO4 hb4 hs4
      try rw [List.append_assoc] at hO4
      rw [← HS.out] at hO4
      clear hO' hb' hbs hs3 HS
      go_wp2
      go_roundw
      case rel => exact ⟨j + 1, by omega, by go_num, _, _, _, rfl, hO4, hb4⟩
      case measure => simp [intOf]; omega
    · have e : l.take j = l := List.take_of_length_le (by rw [HL.out]; omega)
      rw [e] at hO
      have hml := hO.len
      have HM := Lib.hid (⟨A', c', by rw [hml], hml ▸ hO, hb⟩ : MakesB w (l1 ++ pidsL l) (.returned (.slice A' m' c')) wr)
      clear e hO hml
      go_wp2
      go_ret
      exact HM.out
end Go.Proofs.YtjmkecaljkcoiaaDoor
