import Derived.Test.YtjmkecaljkcoiaaDoorQRfX
import Derived.Test.YtjmkecaljkcoiaaDoorQRfZ
namespace Go.Proofs.YtjmkecaljkcoiaaDoor
open Go.RowKit Go.Maps
set_option linter.unusedVariables false
set_option linter.unusedSimpArgs false
theorem flat_step {m : Ms} {l : List UInt8} {k : Nat} (hk : k < l.length) : (l.take (k + 1)).flatMap (letL m) = (l.take k).flatMap (letL m) ++ letL m l[k] := by
  rw [List.take_succ_eq_append_getElem hk, List.flatMap_append]
  simp
structure FormR (w1 : World) (A : Option Addr) (n c : Nat) (L : List UInt8) (W : World) : Prop where
  below : Below w1.heap.size w1 W
  own : OwnB W w1.heap.size (.slice A n c) n L
theorem FormR.later {w1 : World} {A : Option Addr} {n c : Nat} {L : List UInt8} {W W' : World} (h : FormR w1 A n c L W) (hb : Below W.heap.size W W') : FormR w1 A n c L W' := ⟨h.below.trans (hb.mono h.below.size), h.own.later hb⟩
set_option maxRecDepth 100000 in
set_option maxHeartbeats 8000000 in
theorem rform10_any (z : Mx) (B : Nat) (w : World) (h : MxIn w B z) (hs : MSmall z) (hB : B ≤ w.heap.size) (hmay : MayM z.m) :
    Calls Tryd.prog 13 #[.agg #[.int .i64 z.kind, .int .u16 (z.who.i : Int), .int .u32 (z.who.k : Int), .int .u64 (z.view : Int), .int .u64 (z.slot : Int), .int .u64 (z.num : Int), .int .i64 z.hops, .int .u32 (z.b.r : Int), .int .u16 (z.b.p.i : Int), .int .u32 (z.b.p.k : Int), .int .u32 (z.a.r : Int), .int .u16 (z.a.p.i : Int), .int .u32 (z.a.p.k : Int), .bool z.has, .int .i64 z.y.kind, .int .u16 (z.y.p.i : Int), .int .u32 (z.y.p.k : Int), .int .u64 (z.y.num : Int), .int .u64 (z.y.vn : Int), .slice z.y.A z.y.n z.y.c, .int .u64 (z.y.x.id : Int), .slice z.y.x.A z.y.x.m z.y.x.c, .slice z.y.x.B z.y.x.d z.y.x.e, .slice z.y.x.C z.y.x.f z.y.x.g, .int .u64 (z.x.id : Int), .slice z.x.A z.x.m z.x.c, .slice z.x.B z.x.d z.x.e, .slice z.x.C z.x.f z.x.g, .slice z.A z.n z.c]] w (MakesB w (formM z.m)) := by
  have hbz : Below w.heap.size w (w.alloc (.cells #[.int .i64 z.kind, .int .u16 (z.who.i : Int), .int .u32 (z.who.k : Int), .int .u64 (z.view : Int), .int .u64 (z.slot : Int), .int .u64 (z.num : Int), .int .i64 z.hops, .int .u32 (z.b.r : Int), .int .u16 (z.b.p.i : Int), .int .u32 (z.b.p.k : Int), .int .u32 (z.a.r : Int), .int .u16 (z.a.p.i : Int), .int .u32 (z.a.p.k : Int), .bool z.has, .int .i64 z.y.kind, .int .u16 (z.y.p.i : Int), .int .u32 (z.y.p.k : Int), .int .u64 (z.y.num : Int), .int .u64 (z.y.vn : Int), .slice z.y.A z.y.n z.y.c, .int .u64 (z.y.x.id : Int), .slice z.y.x.A z.y.x.m z.y.x.c, .slice z.y.x.B z.y.x.d z.y.x.e, .slice z.y.x.C z.y.x.f z.y.x.g, .int .u64 (z.x.id : Int), .slice z.x.A z.x.m z.x.c, .slice z.x.B z.x.d z.x.e, .slice z.x.C z.x.f z.x.g, .slice z.A z.n z.c] 37)) := (Below.refl _ _).alloc (Nat.le_refl _) _
  have v0 := MAt10.mk_ w z
  have hk := hmay.kind
  have hform := form_letters hk
  obtain ⟨kk, hkk⟩ := Int.eq_ofNat_of_zero_le (show 0 ≤ z.kind by have := hk.1; simp only [Mx.m] at this; omega)
  have hk14 : kk ≤ 14 := by have := hk.2; simp only [Mx.m] at this; omega
  have wr : IntKind.u64.wrap (kk : Int) = (kk : Int) := by rw [IntKind.wrap_u64]; omega
  have hkn : z.m.kind.toNat = kk := by simp only [Mx.m]; omega
  rw [hkn] at hform
  obtain ⟨f, hfd⟩ : ∃ f, f = fldI z.kind := ⟨_, rfl⟩
  have hfl : f.length ≤ 5 := by rw [hfd]; exact fldT_len _
  rw [show fldI z.m.kind = f from hfd.symm] at hform
  have TEN := fun (k : Nat) (hk : k < f.length) => ten_of (k := z.kind) (c := f[k]) (by rw [← hfd]; exact List.getElem_mem hk)
  have LEN := fun (k : Nat) (hk : k < f.length) => letL_len hmay (c := f[k]) (by rw [show fldI z.m.kind = f from hfd.symm]; exact List.getElem_mem hk)
  have LB := fun (k : Nat) (hk : k < f.length) => (decide_eq_true (by rw [show fldI z.m.kind = f from hfd.symm]; exact List.getElem_mem hk) : letB z.m.kind f[k] = true)
  have hcf := fields10_any z.kind
  have CF := fun W => hcf W h.k0 h.k1
  rw [← hfd] at CF
  have hch := fun (k : Nat) (hk : k < f.length) W => char10 f k hk W
  have hz := tx10_size f
  have ZIN := fun W (hb : Below w.heap.size w W) => h.below (hb.mono hB)
  have L := lets z.m.kind z.m.has
  have hlen := h.bs.len
  have HV := hide (And.intro h.hv (And.intro h.hs h.hn))
  have HK := hide (And.intro hkk (And.intro hfd hkn))
  have HCH := hide hch
  have HM := hide (And.intro hmay (And.intro L (And.intro hs hform)))
  have HLEN := hide hlen
  have HX := hide (And.intro TEN (And.intro LEN LB))
  have HZ := hide ZIN
  have j0 := v0.cells.1
  have hlt := v0.lt
  clear h hk hmay hkk hkn hfd hch L hs hform hlen TEN LEN LB ZIN hcf
  generalize hwq : w.alloc (.cells #[.int .i64 z.kind, .int .u16 (z.who.i : Int), .int .u32 (z.who.k : Int), .int .u64 (z.view : Int), .int .u64 (z.slot : Int), .int .u64 (z.num : Int), .int .i64 z.hops, .int .u32 (z.b.r : Int), .int .u16 (z.b.p.i : Int), .int .u32 (z.b.p.k : Int), .int .u32 (z.a.r : Int), .int .u16 (z.a.p.i : Int), .int .u32 (z.a.p.k : Int), .bool z.has, .int .i64 z.y.kind, .int .u16 (z.y.p.i : Int), .int .u32 (z.y.p.k : Int), .int .u64 (z.y.num : Int), .int .u64 (z.y.vn : Int), .slice z.y.A z.y.n z.y.c, .int .u64 (z.y.x.id : Int), .slice z.y.x.A z.y.x.m z.y.x.c, .slice z.y.x.B z.y.x.d z.y.x.e, .slice z.y.x.C z.y.x.f z.y.x.g, .int .u64 (z.x.id : Int), .slice z.x.A z.x.m z.x.c, .slice z.x.B z.x.d z.x.e, .slice z.x.C z.x.f z.x.g, .slice z.A z.n z.c] 37) = w1 at *
  rw [HK.out.1] at j0
  have cn := rnum7_any kk w1 (by omega)
  obtain ⟨L0, hL0⟩ : ∃ L, L = shortL kk := ⟨_, rfl⟩
  have hl0 : L0.length ≤ 10 := by rw [hL0]; exact (shortL_len kk).2
  rw [← hL0] at cn
  have HL0 := hide hL0
  clear hL0
  go_enter Tryd.func13, Tryd.ntmps13
  go_wp2_with fail
  refine cn.mono ?_
  rintro e w2 ⟨A2, c2, rfl, ho, hb⟩
  have r2 : FormR w1 A2 L0.length c2 L0 w2 := ⟨hb, ho⟩
  have v2 := v0.later r2.below
  have j0' := v2.cells.1
  rw [HK.out.1] at j0'
  have hlt2 := v2.lt
  clear cn ho hb hwq j0 hlt v2
  have cf := CF w2
  rw [HK.out.1] at cf
  go_wp2_with fail
  refine cf.mono ?_
  rintro e w3 ⟨rfl, hb⟩
  have r3 := r2.later hb
  clear cf r2 hb j0' hlt2 CF
  go_wp2
  go_loopw [3, 5] (fun o i wr => ∃ (k n : Nat) (A : Option Addr) (c : Nat) (L : List UInt8), i = .int .i64 k ∧ o = .slice A n c ∧ k ≤ f.length ∧ n ≤ 10 + k * 400000 ∧ L = L0 ++ (f.take k).flatMap (letL z.m) ∧ FormR w1 A n c L wr) (fun _ i _ => f.length - (intOf i).toNat)
  case atStart => exact ⟨0, L0.length, A2, c2, L0, rfl, rfl, Nat.zero_le _, by omega, by simp, r3⟩
  case round =>
    obtain ⟨k, n, A, c, L, rfl, rfl, hk, hn, hL, hr⟩ := hrel
    by_cases hlt : k < f.length
    case neg =>
      have hmk : MakesB w (formM z.m) (.returned (.slice A n c)) wr := by
        have e : L = formM z.m := by
          rw [HM.out.2.2.2, hL, HL0.out, List.take_of_length_le (by omega)]
        have hml := hr.own.len
        rw [e] at hml
        have ho := hr.own
        rw [e, ← hml] at ho
        exact ⟨A, c, by rw [hml], ho.mono hbz.size, hbz.trans (hr.below.mono hbz.size)⟩
      have HMK := hide hmk
      clear hmk hL hr
      go_wp2
      go_ret
      exact HMK.out
    case pos =>
    have hc := HCH.out k hlt
    have ten := HX.out.1 k hlt
    have len := HX.out.2.1 k hlt
    have lb := HX.out.2.2 k hlt
    have hnx : (f.take (k + 1)).flatMap (letL z.m) = (f.take k).flatMap (letL z.m) ++ letL z.m f[k] := flat_step hlt
    have hltz : k < (tx10 f).size := by omega
    have fin : L ++ letL z.m f[k] = L0 ++ (f.take (k + 1)).flatMap (letL z.m) := (congrArg (· ++ letL z.m f[k]) hL).trans (by rw [hnx]; exact List.append_assoc _ _ _)
    generalize f[k] = x at hc ten len lb fin
    have HFIN := hide fin
    have HLB := hide lb
    clear fin hnx hL lb
    have vr := v0.later hr.below
    have hlw := vr.lt
    have low : Below w.heap.size w wr := hbz.trans (hr.below.mono hbz.size)
    rcases ten with rfl | rfl | rfl | rfl | rfl | rfl | rfl | rfl | rfl | rfl
    · -- 119
      have hc' : ∀ W, (Instr.index 9 (.string (tx10 f)) (.int .i64 (k : Int))).run Tryd.prog W = .ok (.int .u8 119) W := hc
      clear hc
      have j1 := vr.cells.2.1
      have j2 := vr.cells.2.2.1
      have cc := rpid_any z.who.i z.who.k wr z.who.hi z.who.hk
      obtain ⟨X, hX⟩ : ∃ X, X = pidL z.who.i z.who.k := ⟨_, rfl⟩
      have hXl : X = letL z.m 119 := hX.trans rfl
      rw [← hX] at cc
      rw [← hXl] at len HFIN
      clear hX hXl
      go_wp2_with fail
      refine cc.mono ?_
      rintro e w5 ⟨A4, c4, rfl, ho, hb⟩
      have r5 := hr.later hb
      clear cc hb hr hlw low vr j1 j2
      have ho5 := r5.own
      have hbl5 := r5.below
      go_wp2_with (at_builtin; refine wp_bytes_own _ rfl (.tmp 86) (.tmp 87) rfl w1.heap.size n _ L rfl ho5 _ A4 X.length c4 X rfl ho.bs (by omega) w1.heap.size w1 hbl5 (Nat.le_refl _) hbl5.size ?_)
      intro A6 c6 w6 ho6 hb6 hs6
      have hr6 : FormR w1 A6 (n + X.length) c6 (L ++ X) w6 := ⟨hb6, ho6⟩
      clear ho5 hbl5 r5 ho ho6 hb6 hs6
      go_wp2_with fail
      go_roundw
      case rel => exact ⟨k + 1, n + X.length, A6, c6, L ++ X, by go_num, rfl, by omega, by omega, HFIN.out, hr6⟩
      case measure => simp [intOf]; omega
    · -- 118
      have hc' : ∀ W, (Instr.index 9 (.string (tx10 f)) (.int .i64 (k : Int))).run Tryd.prog W = .ok (.int .u8 118) W := hc
      clear hc
      have j3 := vr.cells.2.2.2.1
      have cc := rnum7_any z.view wr HV.out.1
      obtain ⟨X, hX⟩ : ∃ X, X = shortL z.view := ⟨_, rfl⟩
      have hXl : X = letL z.m 118 := hX.trans rfl
      rw [← hX] at cc
      rw [← hXl] at len HFIN
      clear hX hXl
      go_wp2_with fail
      refine cc.mono ?_
      rintro e w5 ⟨A4, c4, rfl, ho, hb⟩
      have r5 := hr.later hb
      clear cc hb hr hlw low vr j3
      have ho5 := r5.own
      have hbl5 := r5.below
      go_wp2_with (at_builtin; refine wp_bytes_own _ rfl (.tmp 86) (.tmp 87) rfl w1.heap.size n _ L rfl ho5 _ A4 X.length c4 X rfl ho.bs (by omega) w1.heap.size w1 hbl5 (Nat.le_refl _) hbl5.size ?_)
      intro A6 c6 w6 ho6 hb6 hs6
      have hr6 : FormR w1 A6 (n + X.length) c6 (L ++ X) w6 := ⟨hb6, ho6⟩
      clear ho5 hbl5 r5 ho ho6 hb6 hs6
      go_wp2_with fail
      go_roundw
      case rel => exact ⟨k + 1, n + X.length, A6, c6, L ++ X, by go_num, rfl, by omega, by omega, HFIN.out, hr6⟩
      case measure => simp [intOf]; omega
    · -- 115
      have hc' : ∀ W, (Instr.index 9 (.string (tx10 f)) (.int .i64 (k : Int))).run Tryd.prog W = .ok (.int .u8 115) W := hc
      clear hc
      have j4 := vr.cells.2.2.2.2.1
      have cc := rnum7_any z.slot wr HV.out.2.1
      obtain ⟨X, hX⟩ : ∃ X, X = shortL z.slot := ⟨_, rfl⟩
      have hXl : X = letL z.m 115 := hX.trans rfl
      rw [← hX] at cc
      rw [← hXl] at len HFIN
      clear hX hXl
      go_wp2_with fail
      refine cc.mono ?_
      rintro e w5 ⟨A4, c4, rfl, ho, hb⟩
      have r5 := hr.later hb
      clear cc hb hr hlw low vr j4
      have ho5 := r5.own
      have hbl5 := r5.below
      go_wp2_with (at_builtin; refine wp_bytes_own _ rfl (.tmp 86) (.tmp 87) rfl w1.heap.size n _ L rfl ho5 _ A4 X.length c4 X rfl ho.bs (by omega) w1.heap.size w1 hbl5 (Nat.le_refl _) hbl5.size ?_)
      intro A6 c6 w6 ho6 hb6 hs6
      have hr6 : FormR w1 A6 (n + X.length) c6 (L ++ X) w6 := ⟨hb6, ho6⟩
      clear ho5 hbl5 r5 ho ho6 hb6 hs6
      go_wp2_with fail
      go_roundw
      case rel => exact ⟨k + 1, n + X.length, A6, c6, L ++ X, by go_num, rfl, by omega, by omega, HFIN.out, hr6⟩
      case measure => simp [intOf]; omega
    · -- 98
      have hc' : ∀ W, (Instr.index 9 (.string (tx10 f)) (.int .i64 (k : Int))).run Tryd.prog W = .ok (.int .u8 98) W := hc
      clear hc
      have j7 := vr.cells.2.2.2.2.2.2.2.1
      have j8 := vr.cells.2.2.2.2.2.2.2.2.1
      have j9 := vr.cells.2.2.2.2.2.2.2.2.2.1
      have cc := rballot7_any z.b.r z.b.p.i z.b.p.k wr z.b.hr z.b.p.hi z.b.p.hk
      obtain ⟨X, hX⟩ : ∃ X, X = shortL z.b.r ++ pidL z.b.p.i z.b.p.k := ⟨_, rfl⟩
      have hXl : X = letL z.m 98 := hX.trans rfl
      rw [← hX] at cc
      rw [← hXl] at len HFIN
      clear hX hXl
      go_wp2_with fail
      refine cc.mono ?_
      rintro e w5 ⟨A4, c4, rfl, ho, hb⟩
      have r5 := hr.later hb
      clear cc hb hr hlw low vr j7 j8 j9
      have ho5 := r5.own
      have hbl5 := r5.below
      go_wp2_with (at_builtin; refine wp_bytes_own _ rfl (.tmp 86) (.tmp 87) rfl w1.heap.size n _ L rfl ho5 _ A4 X.length c4 X rfl ho.bs (by omega) w1.heap.size w1 hbl5 (Nat.le_refl _) hbl5.size ?_)
      intro A6 c6 w6 ho6 hb6 hs6
      have hr6 : FormR w1 A6 (n + X.length) c6 (L ++ X) w6 := ⟨hb6, ho6⟩
      clear ho5 hbl5 r5 ho ho6 hb6 hs6
      go_wp2_with fail
      go_roundw
      case rel => exact ⟨k + 1, n + X.length, A6, c6, L ++ X, by go_num, rfl, by omega, by omega, HFIN.out, hr6⟩
      case measure => simp [intOf]; omega
    · -- 110
      have hc' : ∀ W, (Instr.index 9 (.string (tx10 f)) (.int .i64 (k : Int))).run Tryd.prog W = .ok (.int .u8 110) W := hc
      clear hc
      have j5 := vr.cells.2.2.2.2.2.1
      have cc := rnum7_any z.num wr HV.out.2.2
      obtain ⟨X, hX⟩ : ∃ X, X = shortL z.num := ⟨_, rfl⟩
      have hXl : X = letL z.m 110 := hX.trans rfl
      rw [← hX] at cc
      rw [← hXl] at len HFIN
      clear hX hXl
      go_wp2_with fail
      refine cc.mono ?_
      rintro e w5 ⟨A4, c4, rfl, ho, hb⟩
      have r5 := hr.later hb
      clear cc hb hr hlw low vr j5
      have ho5 := r5.own
      have hbl5 := r5.below
      go_wp2_with (at_builtin; refine wp_bytes_own _ rfl (.tmp 86) (.tmp 87) rfl w1.heap.size n _ L rfl ho5 _ A4 X.length c4 X rfl ho.bs (by omega) w1.heap.size w1 hbl5 (Nat.le_refl _) hbl5.size ?_)
      intro A6 c6 w6 ho6 hb6 hs6
      have hr6 : FormR w1 A6 (n + X.length) c6 (L ++ X) w6 := ⟨hb6, ho6⟩
      clear ho5 hbl5 r5 ho ho6 hb6 hs6
      go_wp2_with fail
      go_roundw
      case rel => exact ⟨k + 1, n + X.length, A6, c6, L ++ X, by go_num, rfl, by omega, by omega, HFIN.out, hr6⟩
      case measure => simp [intOf]; omega
    · -- 104
      have hc' : ∀ W, (Instr.index 9 (.string (tx10 f)) (.int .i64 (k : Int))).run Tryd.prog W = .ok (.int .u8 104) W := hc
      clear hc
      obtain ⟨oo, hoo, ho4, wh⟩ : ∃ o : Nat, o = z.hops.toNat ∧ o ≤ 4 ∧ IntKind.u64.wrap z.hops = (o : Int) := by
        have e5 := (HM.out.1.each 5 (by decide)).1 (by rw [HM.out.2.1.h5]; exact HLB.out)
        simp only [rightF, Mx.m] at e5
        exact ⟨z.hops.toNat, rfl, by omega, by rw [IntKind.wrap_u64]; omega⟩
      have HOO := hide hoo
      clear hoo
      have j6 := vr.cells.2.2.2.2.2.2.1
      have cc := rnum7_any oo wr (by omega)
      obtain ⟨X, hX⟩ : ∃ X, X = shortL oo := ⟨_, rfl⟩
      have hXl : X = letL z.m 104 := hX.trans (by rw [letL_104]; show _ = shortL z.hops.toNat; rw [← HOO.out])
      rw [← hX] at cc
      rw [← hXl] at len HFIN
      clear hX hXl
      go_wp2_with fail
      refine cc.mono ?_
      rintro e w5 ⟨A4, c4, rfl, ho, hb⟩
      have r5 := hr.later hb
      clear cc hb hr hlw low vr j6
      have ho5 := r5.own
      have hbl5 := r5.below
      go_wp2_with (at_builtin; refine wp_bytes_own _ rfl (.tmp 86) (.tmp 87) rfl w1.heap.size n _ L rfl ho5 _ A4 X.length c4 X rfl ho.bs (by omega) w1.heap.size w1 hbl5 (Nat.le_refl _) hbl5.size ?_)
      intro A6 c6 w6 ho6 hb6 hs6
      have hr6 : FormR w1 A6 (n + X.length) c6 (L ++ X) w6 := ⟨hb6, ho6⟩
      clear ho5 hbl5 r5 ho ho6 hb6 hs6
      go_wp2_with fail
      go_roundw
      case rel => exact ⟨k + 1, n + X.length, A6, c6, L ++ X, by go_num, rfl, by omega, by omega, HFIN.out, hr6⟩
      case measure => simp [intOf]; omega
    · -- 112
      have hc' : ∀ W, (Instr.index 9 (.string (tx10 f)) (.int .i64 (k : Int))).run Tryd.prog W = .ok (.int .u8 112) W := hc
      clear hc
      have j13 := vr.cells.2.2.2.2.2.2.2.2.2.2.2.2.2.1
      have cc := rtruth7_any z.has wr
      obtain ⟨t, ht⟩ : ∃ t, t = z.has := ⟨_, rfl⟩
      rw [← ht] at j13 cc
      obtain ⟨X, hX⟩ : ∃ X, X = boolL t := ⟨_, rfl⟩
      have hX1 : X.length = 1 := by rw [hX]; rfl
      rw [← hX] at cc
      have HT := hide (And.intro ht hX)
      clear ht hX
      go_wp2_with fail
      refine cc.mono ?_
      rintro e w5 ⟨A4, c4, rfl, ho, hb⟩
      have r5 := hr.later hb
      have v5 := vr.later hb
      have j13' := v5.cells.2.2.2.2.2.2.2.2.2.2.2.2.2.1
      rw [← HT.out.1] at j13'
      have hlw5 := v5.lt
      rw [hX1] at ho ⊢
      clear cc hlw low j13
      cases t
      · have hXl : X = letL z.m 112 := by
          rw [letL_112, show z.m.has = false from HT.out.1.symm]
          exact HT.out.2
        rw [← hXl] at len HFIN
        clear hXl
        have ho5 := r5.own
        have hbl5 := r5.below
        go_wp2_with (at_builtin; refine wp_bytes_own _ rfl (.tmp 86) (.tmp 87) rfl w1.heap.size n _ L rfl ho5 _ A4 1 c4 X rfl ho.bs (by omega) w1.heap.size w1 hbl5 (Nat.le_refl _) hbl5.size ?_)
        intro A6 c6 w6 ho6 hb6 hs6
        have hr6 : FormR w1 A6 (n + 1) c6 (L ++ X) w6 := ⟨hb6, ho6⟩
        clear ho5 hbl5 r5 ho ho6 hb6 hs6 v5 j13' hlw5 hb hr vr
        go_wp2_with fail
        go_roundw
        case rel => exact ⟨k + 1, n + 1, A6, c6, L ++ X, by go_num, rfl, by omega, by omega, HFIN.out, hr6⟩
        case measure => simp [intOf]; omega
      · have hXl : X ++ ((shortL z.a.r ++ pidL z.a.p.i z.a.p.k) ++ formC z.y.m) = letL z.m 112 := by
          rw [letL_112, show z.m.has = true from HT.out.1.symm, HT.out.2, ← List.append_assoc]
          rfl
        have low5 : Below w.heap.size w w5 := hbz.trans (r5.below.mono hbz.size)
        have hyc := (HM.out.1.each 8 (by decide)).1 (by rw [HM.out.2.1.h8, show letB z.m.kind 112 = true from HLB.out, show z.m.has = true from HT.out.1.symm]; simp)
        have c2 := rballot7_any z.a.r z.a.p.i z.a.p.k w5 z.a.hr z.a.p.hi z.a.p.hk
        have c3 := fun W (hb : Below w.heap.size w W) => rform9_any z.y B W (HZ.out W hb).cm HM.out.2.2.1.c (Nat.le_trans hB hb.size) hyc
        obtain ⟨X2, hX2⟩ : ∃ X, X = shortL z.a.r ++ pidL z.a.p.i z.a.p.k := ⟨_, rfl⟩
        obtain ⟨X3, hX3⟩ : ∃ X, X = formC z.y.m := ⟨_, rfl⟩
        rw [← hX2] at c2 hXl
        rw [← hX3] at c3 hXl
        rw [← hXl] at len HFIN
        have hXs : (X ++ (X2 ++ X3)).length = 1 + X2.length + X3.length := by simp only [List.length_append, hX1]; omega
        rw [hXs] at len
        clear hXl hX2 hX3 hyc hXs
        have j10 := v5.cells.2.2.2.2.2.2.2.2.2.2.1
        have j11 := v5.cells.2.2.2.2.2.2.2.2.2.2.2.1
        have j12 := v5.cells.2.2.2.2.2.2.2.2.2.2.2.2.1
        go_wp2_with fail
        refine c2.mono ?_
        rintro e w6 ⟨A6, c6, rfl, hp, hb6⟩
        have o6 := ho.later hb6
        have q6 := hb.trans (hb6.mono hb.size)
        have z6 := q6.size
        have hps := hp.bs
        clear c2 hb6 j10 j11 j12 r5 v5 j13' hlw5 ho hb low5
        go_wp2_with (at_builtin; refine wp_bytes_own _ rfl (.tmp 61) (.tmp 64) rfl wr.heap.size 1 _ X rfl o6 _ A6 X2.length c6 X2 rfl hps (by omega) wr.heap.size wr q6 (Nat.le_refl _) z6 ?_)
        intro A7 c7 w7 o7 q7 s7
        have v7 := vr.later q7
        have low7 : Below w.heap.size w w7 := hbz.trans ((hr.below.trans (q7.mono hr.below.size)).mono hbz.size)
        have c4 := c3 w7 low7
        have z7 := q7.size
        obtain ⟨j0, j1, j2, j3, j4, j5, j6, j7, j8, j9, j10, j11, j12, j13, j14, j15, j16, j17, j18, j19, j20, j21, j22, j23, j24, j25, j26, j27, j28⟩ := v7.cells
        have hlw7 := v7.lt
        clear hp o6 q6 z6 hps s7 c3
        go_wp2_with fail
        refine c4.mono ?_
        rintro e w8 ⟨A8, c8, rfl, hp, hb8⟩
        have o8 := o7.later hb8
        have q8 := q7.trans (hb8.mono z7)
        have z8 := q8.size
        have hps := hp.bs
        clear c4 hb8 hp o7 q7 z7 v7 low7 hlw7 j0 j1 j2 j3 j4 j5 j6 j7 j8 j9 j10 j11 j12 j13 j14 j15 j16 j17 j18 j19 j20 j21 j22 j23 j24 j25 j26 j27 j28
        go_wp2_with (at_builtin; refine wp_bytes_own _ rfl (.tmp 66) (.tmp 69) rfl wr.heap.size (1 + X2.length) _ (X ++ X2) rfl o8 _ A8 X3.length c8 X3 rfl hps (by omega) wr.heap.size wr q8 (Nat.le_refl _) z8 ?_)
        intro A9 c9 w9 o9 q9 s9
        have r9 := hr.later q9
        have ho9 := r9.own
        have hbl9 := r9.below
        have z9 := hbl9.size
        have hps9 : Bs w9 w9.heap.size A9 (1 + X2.length + X3.length) (X ++ (X2 ++ X3)) := by simpa only [List.append_assoc] using o9.bs
        clear hps o8 q8 z8 s9 hr vr r9 q9
        go_wp2_with (at_builtin; refine wp_bytes_own _ rfl (.tmp 86) (.tmp 87) rfl w1.heap.size n _ L rfl ho9 _ A9 (1 + X2.length + X3.length) c9 (X ++ (X2 ++ X3)) rfl hps9 (by omega) w1.heap.size w1 hbl9 (Nat.le_refl _) z9 ?_)
        intro Aa ca wa hoa hba hsa
        have hra : FormR w1 Aa (n + (1 + X2.length + X3.length)) ca (L ++ (X ++ (X2 ++ X3))) wa := ⟨hba, hoa⟩
        clear ho9 hbl9 z9 hps9 o9 hoa hba hsa
        go_wp2_with fail
        go_roundw
        case rel => exact ⟨k + 1, n + (1 + X2.length + X3.length), Aa, ca, L ++ (X ++ (X2 ++ X3)), by go_num, rfl, by omega, by omega, HFIN.out, hra⟩
        case measure => simp [intOf]; omega
    · -- 99
      have hc' : ∀ W, (Instr.index 9 (.string (tx10 f)) (.int .i64 (k : Int))).run Tryd.prog W = .ok (.int .u8 99) W := hc
      clear hc
      have j14 := vr.cells.2.2.2.2.2.2.2.2.2.2.2.2.2.2.1
      have j15 := vr.cells.2.2.2.2.2.2.2.2.2.2.2.2.2.2.2.1
      have j16 := vr.cells.2.2.2.2.2.2.2.2.2.2.2.2.2.2.2.2.1
      have j17 := vr.cells.2.2.2.2.2.2.2.2.2.2.2.2.2.2.2.2.2.1
      have j18 := vr.cells.2.2.2.2.2.2.2.2.2.2.2.2.2.2.2.2.2.2.1
      have j19 := vr.cells.2.2.2.2.2.2.2.2.2.2.2.2.2.2.2.2.2.2.2.1
      have j20 := vr.cells.2.2.2.2.2.2.2.2.2.2.2.2.2.2.2.2.2.2.2.2.1
      have j21 := vr.cells.2.2.2.2.2.2.2.2.2.2.2.2.2.2.2.2.2.2.2.2.2.1
      have j22 := vr.cells.2.2.2.2.2.2.2.2.2.2.2.2.2.2.2.2.2.2.2.2.2.2.1
      have j23 := vr.cells.2.2.2.2.2.2.2.2.2.2.2.2.2.2.2.2.2.2.2.2.2.2.2.1
      have cc := rform9_any z.y B wr (HZ.out wr low).cm HM.out.2.2.1.c (Nat.le_trans hB low.size) ((HM.out.1.each 8 (by decide)).1 (by rw [HM.out.2.1.h8, show letB z.m.kind 99 = true from HLB.out]; rfl))
      obtain ⟨X, hX⟩ : ∃ X, X = formC z.y.m := ⟨_, rfl⟩
      have hXl : X = letL z.m 99 := hX.trans rfl
      rw [← hX] at cc
      rw [← hXl] at len HFIN
      clear hX hXl
      go_wp2_with fail
      refine cc.mono ?_
      rintro e w5 ⟨A4, c4, rfl, ho, hb⟩
      have r5 := hr.later hb
      clear cc hb hr hlw low vr j14 j15 j16 j17 j18 j19 j20 j21 j22 j23
      have ho5 := r5.own
      have hbl5 := r5.below
      go_wp2_with (at_builtin; refine wp_bytes_own _ rfl (.tmp 86) (.tmp 87) rfl w1.heap.size n _ L rfl ho5 _ A4 X.length c4 X rfl ho.bs (by omega) w1.heap.size w1 hbl5 (Nat.le_refl _) hbl5.size ?_)
      intro A6 c6 w6 ho6 hb6 hs6
      have hr6 : FormR w1 A6 (n + X.length) c6 (L ++ X) w6 := ⟨hb6, ho6⟩
      clear ho5 hbl5 r5 ho ho6 hb6 hs6
      go_wp2_with fail
      go_roundw
      case rel => exact ⟨k + 1, n + X.length, A6, c6, L ++ X, by go_num, rfl, by omega, by omega, HFIN.out, hr6⟩
      case measure => simp [intOf]; omega
    · -- 86
      have hc' : ∀ W, (Instr.index 9 (.string (tx10 f)) (.int .i64 (k : Int))).run Tryd.prog W = .ok (.int .u8 86) W := hc
      clear hc
      have j24 := vr.cells.2.2.2.2.2.2.2.2.2.2.2.2.2.2.2.2.2.2.2.2.2.2.2.2.1
      have j25 := vr.cells.2.2.2.2.2.2.2.2.2.2.2.2.2.2.2.2.2.2.2.2.2.2.2.2.2.1
      have j26 := vr.cells.2.2.2.2.2.2.2.2.2.2.2.2.2.2.2.2.2.2.2.2.2.2.2.2.2.2.1
      have j27 := vr.cells.2.2.2.2.2.2.2.2.2.2.2.2.2.2.2.2.2.2.2.2.2.2.2.2.2.2.2.1
      have cc := rform8_any z.x B wr (HZ.out wr low).vw HM.out.2.2.1.v (Nat.le_trans hB low.size) ((HM.out.1.each 9 (by decide)).1 (by rw [HM.out.2.1.h9]; exact HLB.out))
      obtain ⟨X, hX⟩ : ∃ X, X = viewL z.x.v := ⟨_, rfl⟩
      have hXl : X = letL z.m 86 := hX.trans rfl
      rw [← hX] at cc
      rw [← hXl] at len HFIN
      clear hX hXl
      go_wp2_with fail
      refine cc.mono ?_
      rintro e w5 ⟨A4, c4, rfl, ho, hb⟩
      have r5 := hr.later hb
      clear cc hb hr hlw low vr j24 j25 j26 j27
      have ho5 := r5.own
      have hbl5 := r5.below
      go_wp2_with (at_builtin; refine wp_bytes_own _ rfl (.tmp 86) (.tmp 87) rfl w1.heap.size n _ L rfl ho5 _ A4 X.length c4 X rfl ho.bs (by omega) w1.heap.size w1 hbl5 (Nat.le_refl _) hbl5.size ?_)
      intro A6 c6 w6 ho6 hb6 hs6
      have hr6 : FormR w1 A6 (n + X.length) c6 (L ++ X) w6 := ⟨hb6, ho6⟩
      clear ho5 hbl5 r5 ho ho6 hb6 hs6
      go_wp2_with fail
      go_roundw
      case rel => exact ⟨k + 1, n + X.length, A6, c6, L ++ X, by go_num, rfl, by omega, by omega, HFIN.out, hr6⟩
      case measure => simp [intOf]; omega
    · -- 121
      have hc' : ∀ W, (Instr.index 9 (.string (tx10 f)) (.int .i64 (k : Int))).run Tryd.prog W = .ok (.int .u8 121) W := hc
      clear hc
      have j28 := vr.cells.2.2.2.2.2.2.2.2.2.2.2.2.2.2.2.2.2.2.2.2.2.2.2.2.2.2.2.2
      have cc := rbytes7_any z.A z.n z.c z.l B wr (HZ.out wr low).bs (Nat.le_trans hB low.size) (by have := HM.out.2.2.1.n; omega)
      obtain ⟨X, hX⟩ : ∃ X, X = shortL z.n ++ z.l := ⟨_, rfl⟩
      have hXl : X = letL z.m 121 := hX.trans (by rw [letL_121]; show _ = shortL z.l.length ++ z.l; rw [HLEN.out])
      rw [← hX] at cc
      rw [← hXl] at len HFIN
      clear hX hXl
      go_wp2_with fail
      refine cc.mono ?_
      rintro e w5 ⟨A4, c4, rfl, ho, hb⟩
      have r5 := hr.later hb
      clear cc hb hr hlw low vr j28
      have ho5 := r5.own
      have hbl5 := r5.below
      go_wp2_with (at_builtin; refine wp_bytes_own _ rfl (.tmp 86) (.tmp 87) rfl w1.heap.size n _ L rfl ho5 _ A4 X.length c4 X rfl ho.bs (by omega) w1.heap.size w1 hbl5 (Nat.le_refl _) hbl5.size ?_)
      intro A6 c6 w6 ho6 hb6 hs6
      have hr6 : FormR w1 A6 (n + X.length) c6 (L ++ X) w6 := ⟨hb6, ho6⟩
      clear ho5 hbl5 r5 ho ho6 hb6 hs6
      go_wp2_with fail
      go_roundw
      case rel => exact ⟨k + 1, n + X.length, A6, c6, L ++ X, by go_num, rfl, by omega, by omega, HFIN.out, hr6⟩
      case measure => simp [intOf]; omega
end Go.Proofs.YtjmkecaljkcoiaaDoor
