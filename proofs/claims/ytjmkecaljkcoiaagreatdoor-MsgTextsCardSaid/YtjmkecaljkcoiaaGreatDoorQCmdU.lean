import Derived.Test.YtjmkecaljkcoiaaGreatDoorQCmdT
import Derived.Test.YtjmkecaljkcoiaaGreatDoorQCmd7
import Derived.Test.YtjmkecaljkcoiaaGreatDoorQCmd6
import Derived.Test.YtjmkecaljkcoiaaGreatDoorQHex2
namespace Go.Proofs.YtjmkecaljkcoiaaGreatDoor
open Go.RowKit Go.Maps Go.Lib
set_option linter.unusedVariables false
set_option linter.unusedSimpArgs false
theorem decimal_any (n : Nat) (w : World) (hn : n < 18446744073709551616) (hP : Pows w) :
    Calls Tryz.prog 122 #[.int .u64 n] w fun e w' => e = .returned (.string (decS n)) ∧ Below w.heap.size w w' := by
  have cf := fmtu_any n hn w hP
  go_enter Tryz.func122, Tryz.ntmps122
  go_wp2_with fail
  refine cf.mono ?_
  rintro e w2 ⟨rfl, hb⟩
  go_wp2
  go_ret
  exact ⟨rfl, hb⟩
theorem digits_62 (n : Nat) (w : World) (hn : n ≤ 4611686018427387904) :
    Calls Tryz.prog 43 #[.int .u64 n] w fun e w' => e = .returned (.string (decS n)) ∧ Below w.heap.size w w' := digits_any 18 n w (by omega) (by omega)
def hexS (l : List UInt8) : ByteArray := ⟨(hexL l).toArray⟩
theorem send_txt (c : Cm) (h : c.kind = 2) : (⟨#[115, 101, 110, 100, 32]⟩ : ByteArray) ++ pidS c.p.i c.p.k ++ (⟨#[32]⟩ : ByteArray) ++ decS c.num ++ (⟨#[32]⟩ : ByteArray) ++ decS c.vn ++ (⟨#[32, 120]⟩ : ByteArray) ++ hexS c.d = txt (textL c) := by
  unfold textL
  rw [if_pos h]
  unfold pidS decS hexS txt
  apply ByteArray.ext
  apply Array.toList_inj.1
  simp [ByteArray.data_append]
theorem view_txt (l : List UInt8) : (⟨#[118, 105, 101, 119, 32]⟩ : ByteArray) ++ txt l = txt ([118, 105, 101, 119, 32] ++ l) := by
  unfold txt
  apply ByteArray.ext
  apply Array.toList_inj.1
  simp [ByteArray.data_append]
theorem printL_len {v : Vi} (hv : MayV v) : (printL v).length ≤ 1000000 := by
  have h1 := upL_len (v := v) (by have := hv.hi; omega) (fun p hp => by
    obtain ⟨h2, _⟩ := lfX_lt v.lvs p (hv.lvs.has hp)
    have := hv.lvs.few9
    have := hv.mem.most
    omega) v.mem.length (Nat.le_refl _)
  unfold upL at h1
  rw [List.take_length] at h1
  have := hv.mem.most
  unfold printL
  omega
theorem sizeP9 (p : Pr) : (pidS p.i p.k).size ≤ 16 := by
  show (pidT p.i p.k).toArray.size ≤ 16
  simpa using pidT_len p.i p.k p.hi p.hk
theorem sizeD9 (n : Nat) (h : n < 18446744073709551616) : (decS n).size ≤ 20 := by
  show (decDigits n).toArray.size ≤ 20
  simpa using nDigits_20 n h
theorem sizeH9 (l : List UInt8) : (hexS l).size = 2 * l.length := by
  show (hexL l).toArray.size = _
  simpa using hexL_len l
set_option maxRecDepth 100000 in
set_option maxHeartbeats 2000000 in
theorem text_any (y : Cx) (B : Nat) (w : World) (L : List UInt8) (h : CxIn w B y) (hs : CSmall y) (hB : B ≤ w.heap.size) (hL : TextC y.m L) (hP : Pows w) :
    Calls Tryz.prog 70 #[.agg #[.int .i64 y.kind, .int .u16 y.p.i, .int .u32 y.p.k, .int .u64 y.num, .int .u64 y.vn, .slice y.A y.n y.c, .int .u64 y.x.id, .slice y.x.A y.x.m y.x.c, .slice y.x.B y.x.d y.x.e, .slice y.x.C y.x.f y.x.g]] w fun e w' => e = .returned (.string (txt L)) ∧ Below w.heap.size w w' := by
  have hbz : Below w.heap.size w (w.alloc (.cells #[.int .i64 y.kind, .int .u16 y.p.i, .int .u32 y.p.k, .int .u64 y.num, .int .u64 y.vn, .slice y.A y.n y.c, .int .u64 y.x.id, .slice y.x.A y.x.m y.x.c, .slice y.x.B y.x.d y.x.e, .slice y.x.C y.x.f y.x.g] 48)) := (Below.refl _ _).alloc (Nat.le_refl _) _
  have v0 := CAt.mk_ w y
  have hP1 := hP.below hbz
  obtain ⟨t, ht⟩ := bool_of (ButLen y.m)
  have ck := check9_any y B (w.alloc (.cells #[.int .i64 y.kind, .int .u16 y.p.i, .int .u32 y.p.k, .int .u64 y.num, .int .u64 y.vn, .slice y.A y.n y.c, .int .u64 y.x.id, .slice y.x.A y.x.m y.x.c, .slice y.x.B y.x.d y.x.e, .slice y.x.C y.x.f y.x.g] 48)) t (h.below (hbz.mono hB)) hs.v (Nat.le_trans hB hbz.size) ht
  have cm := ckE_may ht
  rw [show y.m.d.length = y.n from h.bs.len] at cm
  generalize ckE t y.n = r at *
  have hin := fun W (hb : Below w.heap.size w W) => h.below (hb.mono hB)
  have hlen := h.bs.len
  obtain ⟨kind, p, num, vn, A, n, c, l, xv⟩ := y
  obtain ⟨j0, j1, j2, j3, j4, j5, j6, j7, j8, j9⟩ := v0.cells
  dsimp only at *
  generalize hw1 : w.alloc (.cells #[.int .i64 kind, .int .u16 p.i, .int .u32 p.k, .int .u64 num, .int .u64 vn, .slice A n c, .int .u64 xv.id, .slice xv.A xv.m xv.c, .slice xv.B xv.d xv.e, .slice xv.C xv.f xv.g] 48) = w1 at *
  have HIN := hide hin
  have HL := hide hL
  have HLEN := hide hlen
  clear ht hL h hin hlen hP
  by_cases hr : r = 0
  case neg =>
    have z1 : (r != 0) = true := by rw [bne_iff_ne]; exact hr
    have hl : L = [63] := by
      rcases HL.out with ⟨e, _⟩ | ⟨_, e⟩
      · exact absurd (cm.2 e) hr
      · exact e
    subst hl
    clear cm hr HL
    go_enter Tryz.func70, Tryz.ntmps70
    go_wp2_with fail
    refine ck.mono ?_
    rintro e w2 ⟨rfl, hb⟩
    have hb2 := hbz.trans (hb.mono hbz.size)
    go_wp2
    go_ret
    exact ⟨rfl, hb2⟩
  have hmay := cm.1 hr
  subst hr
  have hl : L = textL (Cx.m ⟨kind, p, num, vn, A, n, c, l, xv⟩) := by
    rcases HL.out with ⟨_, e⟩ | ⟨e, _⟩
    · exact e
    · exact absurd hmay e
  have HTX := hide hl
  have HMAY := hide hmay
  clear cm HL hl hmay
  go_enter Tryz.func70, Tryz.ntmps70
  go_wp2_with fail
  refine ck.mono ?_
  rintro e w2 ⟨rfl, hb⟩
  have hb2 := hbz.trans (hb.mono hbz.size)
  have v2 := v0.later hb
  have hP2 := hP1.below hb
  clear ck v0 hb hw1 hP1 hbz j0 j1 j2 j3 j4 j5 j6 j7 j8 j9
  obtain ⟨j0, j1, j2, j3, j4, j5, j6, j7, j8, j9⟩ := v2.cells
  dsimp only at j0 j1 j2 j3 j4 j5 j6 j7 j8 j9
  by_cases k2 : kind = 2
  · subst k2
    obtain ⟨m1, m2, m3, m4⟩ := (but2 rfl).1 HMAY.out.but
    have hsh := HMAY.out.short
    have b2 := m2.2
    have b3 := m3.2
    simp only [Cx.m] at b2 b3 hsh
    have hT := send_txt (Cx.m ⟨2, p, num, vn, A, n, c, l, xv⟩) rfl
    rw [← HTX.out] at hT
    simp only [Cx.m] at hT
    have HT := hide hT
    have s1 := sizeP9 p
    have s2 := sizeD9 num (by omega)
    have s3 := sizeD9 vn (by omega)
    have hn2 : n ≤ 200 := by rw [← HLEN.out]; exact hsh
    have s4 : (hexS l).size ≤ 400 := by rw [sizeH9]; omega
    have k1 := fun x : Later w2 => calm_of (print_any p.i p.k x.w p.hi p.hk (hP2.below x.below))
    have k2 := fun x : Later w2 => calm_of (decimal_any num x.w (by omega) (hP2.below x.below))
    have k3 := fun x : Later w2 => calm_of (decimal_any vn x.w (by omega) (hP2.below x.below))
    have k4 : ∀ x : Later w2, Calls Tryz.prog 71 #[.slice A n c] x.w fun e w'' => e = .returned (.string (hexS l)) ∧ ∃ y : Later w2, w'' = y.w := fun x => calm_of (hex_any A n c l B x.w (HIN.out x.w (hb2.trans (x.below.mono hb2.size))).bs (Nat.le_trans hB (Nat.le_trans hb2.size x.below.size)) (by omega))
    have g0 := Later.cell j0
    have g1 := Later.cell j1
    have g2 := Later.cell j2
    have g3 := Later.cell j3
    have g4 := Later.cell j4
    have g5 := Later.cell j5
    clear m1 m2 m3 m4 hT hsh
    generalize pidS p.i p.k = q1 at *
    generalize decS num = q2 at *
    generalize decS vn = q3 at *
    generalize hexS l = q4 at *
    go_wp2_with fail
    refine wp_region_calm (by kernel_rfl) (by kernel_rfl) ?_
    repeat (go_big_quiet_step (first | (go_at_call 38; with_reducible exact k1 _) | (go_at_call 122; first | with_reducible exact k2 _ | with_reducible exact k3 _) | (go_at_call 71; with_reducible exact k4 _)))
    refine wpQuiet_nil ?_
    rintro _ ⟨x9, rfl⟩
    have hb9 := x9.below
    generalize x9.w = w9 at hb9 ⊢
    have hb10 := hb2.trans (hb9.mono hb2.size)
    clear k1 k2 k3 k4 g0 g1 g2 g3 g4 g5 hb9 s1 s2 s3 s4
    go_wp2
    go_ret
    exact ⟨ret_str HT.out, hb10⟩
  have q2 : (kind == 2) = false := by rw [beq_eq_false_iff_ne]; exact k2
  by_cases k3 : kind = 3
  · subst k3
    obtain ⟨m1, m2⟩ := (but3 rfl).1 HMAY.out.but
    simp only [Cx.m] at m1
    have hT : (⟨#[118, 105, 101, 119, 32]⟩ : ByteArray) ++ txt (printL xv.v) = txt L := by
      rw [HTX.out, view_txt]
      unfold textL Cx.m
      simp
    have HT := hide hT
    have cv : Calls Tryz.prog 11 #[.agg #[.int .u64 xv.id, .slice xv.A xv.m xv.c, .slice xv.B xv.d xv.e, .slice xv.C xv.f xv.g]] w2 (fun e w' => e = .returned (.tuple #[.string (txt (printL xv.v)), .int .i64 0]) ∧ Below w2.heap.size w2 w') := vprint_any xv B w2 true (HIN.out w2 hb2).vw hs.v (Nat.le_trans hB hb2.size) ⟨fun _ => m1, fun _ => rfl⟩ hP2
    have hsz : (txt (printL xv.v)).size ≤ 1000000 := by rw [txt_size]; exact printL_len m1
    generalize txt (printL xv.v) = q1 at *
    clear m1 m2 hT
    go_wp2_with fail
    refine cv.mono ?_
    rintro e w3 ⟨rfl, hb⟩
    have hb3 := hb2.trans (hb.mono hb2.size)
    go_wp2
    go_ret
    exact ⟨ret_str HT.out, hb3⟩
  have q3 : (kind == 3) = false := by rw [beq_eq_false_iff_ne]; exact k3
  have hT : L = [110, 111, 112] := by
    rw [HTX.out]
    unfold textL Cx.m
    rw [if_neg k2, if_neg k3]
  have HT := hide hT
  clear hT
  go_wp2
  go_ret
  exact ⟨ret_str (by rw [HT.out]; rfl), hb2⟩
set_option maxRecDepth 100000 in
set_option maxHeartbeats 2000000 in
theorem rtext_any (y : Cx) (B : Nat) (w : World) (L : List UInt8) (h : CxIn w B y) (hs : CSmall y) (hB : B ≤ w.heap.size) (hL : TextC y.m L) :
    Calls Tryz.prog 75 #[.agg #[.int .i64 y.kind, .int .u16 y.p.i, .int .u32 y.p.k, .int .u64 y.num, .int .u64 y.vn, .slice y.A y.n y.c, .int .u64 y.x.id, .slice y.x.A y.x.m y.x.c, .slice y.x.B y.x.d y.x.e, .slice y.x.C y.x.f y.x.g]] w fun e w' => e = .returned (.string (txt L)) ∧ Below w.heap.size w w' := by
  have hbz : Below w.heap.size w (w.alloc (.cells #[.int .i64 y.kind, .int .u16 y.p.i, .int .u32 y.p.k, .int .u64 y.num, .int .u64 y.vn, .slice y.A y.n y.c, .int .u64 y.x.id, .slice y.x.A y.x.m y.x.c, .slice y.x.B y.x.d y.x.e, .slice y.x.C y.x.f y.x.g] 48)) := (Below.refl _ _).alloc (Nat.le_refl _) _
  have v0 := CAt.mk_ w y
  obtain ⟨t, ht⟩ := bool_of (ButLen y.m)
  have ck := rcheck9_any y B (w.alloc (.cells #[.int .i64 y.kind, .int .u16 y.p.i, .int .u32 y.p.k, .int .u64 y.num, .int .u64 y.vn, .slice y.A y.n y.c, .int .u64 y.x.id, .slice y.x.A y.x.m y.x.c, .slice y.x.B y.x.d y.x.e, .slice y.x.C y.x.f y.x.g] 48)) t (h.below (hbz.mono hB)) hs.v (Nat.le_trans hB hbz.size) ht
  have cm := ckE_may ht
  rw [show y.m.d.length = y.n from h.bs.len] at cm
  generalize ckE t y.n = r at *
  have hin := fun W (hb : Below w.heap.size w W) => h.below (hb.mono hB)
  have hlen := h.bs.len
  obtain ⟨kind, p, num, vn, A, n, c, l, xv⟩ := y
  obtain ⟨j0, j1, j2, j3, j4, j5, j6, j7, j8, j9⟩ := v0.cells
  dsimp only at *
  generalize hw1 : w.alloc (.cells #[.int .i64 kind, .int .u16 p.i, .int .u32 p.k, .int .u64 num, .int .u64 vn, .slice A n c, .int .u64 xv.id, .slice xv.A xv.m xv.c, .slice xv.B xv.d xv.e, .slice xv.C xv.f xv.g] 48) = w1 at *
  have HIN := hide hin
  have HL := hide hL
  have HLEN := hide hlen
  clear ht hL h hin hlen
  by_cases hr : r = 0
  case neg =>
    have z1 : (r != 0) = true := by rw [bne_iff_ne]; exact hr
    have hl : L = [63] := by
      rcases HL.out with ⟨e, _⟩ | ⟨_, e⟩
      · exact absurd (cm.2 e) hr
      · exact e
    subst hl
    clear cm hr HL
    go_enter Tryz.func75, Tryz.ntmps75
    go_wp2_with fail
    refine ck.mono ?_
    rintro e w2 ⟨rfl, hb⟩
    have hb2 := hbz.trans (hb.mono hbz.size)
    go_wp2
    go_ret
    exact ⟨rfl, hb2⟩
  have hmay := cm.1 hr
  subst hr
  have hl : L = textL (Cx.m ⟨kind, p, num, vn, A, n, c, l, xv⟩) := by
    rcases HL.out with ⟨_, e⟩ | ⟨e, _⟩
    · exact e
    · exact absurd hmay e
  have HTX := hide hl
  have HMAY := hide hmay
  clear cm HL hl hmay
  go_enter Tryz.func75, Tryz.ntmps75
  go_wp2_with fail
  refine ck.mono ?_
  rintro e w2 ⟨rfl, hb⟩
  have hb2 := hbz.trans (hb.mono hbz.size)
  have v2 := v0.later hb
  clear ck v0 hb hw1 hbz j0 j1 j2 j3 j4 j5 j6 j7 j8 j9
  obtain ⟨j0, j1, j2, j3, j4, j5, j6, j7, j8, j9⟩ := v2.cells
  dsimp only at j0 j1 j2 j3 j4 j5 j6 j7 j8 j9
  by_cases k2 : kind = 2
  · subst k2
    obtain ⟨m1, m2, m3, m4⟩ := (but2 rfl).1 HMAY.out.but
    have hsh := HMAY.out.short
    have b2 := m2.2
    have b3 := m3.2
    simp only [Cx.m] at b2 b3 hsh
    have hT := send_txt (Cx.m ⟨2, p, num, vn, A, n, c, l, xv⟩) rfl
    rw [← HTX.out] at hT
    simp only [Cx.m] at hT
    have HT := hide hT
    have s1 := sizeP9 p
    have s2 := sizeD9 num (by omega)
    have s3 := sizeD9 vn (by omega)
    have hn2 : n ≤ 200 := by rw [← HLEN.out]; exact hsh
    have s4 : (hexS l).size ≤ 400 := by rw [sizeH9]; omega
    have k1 := fun x : Later w2 => calm_of (rprint_any p.i p.k x.w p.hi p.hk)
    have k2 := fun x : Later w2 => calm_of (digits_62 num x.w b2)
    have k3 := fun x : Later w2 => calm_of (digits_62 vn x.w b3)
    have k4 : ∀ x : Later w2, Calls Tryz.prog 76 #[.slice A n c] x.w fun e w'' => e = .returned (.string (hexS l)) ∧ ∃ y : Later w2, w'' = y.w := fun x => calm_drawn (rhex_any A n c l B x.w (HIN.out x.w (hb2.trans (x.below.mono hb2.size))).bs (by omega))
    have g0 := Later.cell j0
    have g1 := Later.cell j1
    have g2 := Later.cell j2
    have g3 := Later.cell j3
    have g4 := Later.cell j4
    have g5 := Later.cell j5
    clear m1 m2 m3 m4 hT hsh b2 b3
    generalize pidS p.i p.k = q1 at *
    generalize decS num = q2 at *
    generalize decS vn = q3 at *
    generalize hexS l = q4 at *
    go_wp2_with fail
    refine wp_region_calm (by kernel_rfl) (by kernel_rfl) ?_
    repeat (go_big_quiet_step (first | (go_at_call 44; with_reducible exact k1 _) | (go_at_call 43; first | with_reducible exact k2 _ | with_reducible exact k3 _) | (go_at_call 76; with_reducible exact k4 _)))
    refine wpQuiet_nil ?_
    rintro _ ⟨x9, rfl⟩
    have hb9 := x9.below
    generalize x9.w = w9 at hb9 ⊢
    have hb10 := hb2.trans (hb9.mono hb2.size)
    clear k1 k2 k3 k4 g0 g1 g2 g3 g4 g5 hb9 s1 s2 s3 s4
    go_wp2
    go_ret
    exact ⟨ret_str HT.out, hb10⟩
  have q2 : (kind == 2) = false := by rw [beq_eq_false_iff_ne]; exact k2
  by_cases k3 : kind = 3
  · subst k3
    obtain ⟨m1, m2⟩ := (but3 rfl).1 HMAY.out.but
    simp only [Cx.m] at m1
    have hT : (⟨#[118, 105, 101, 119, 32]⟩ : ByteArray) ++ txt (printL xv.v) = txt L := by
      rw [HTX.out, view_txt]
      unfold textL Cx.m
      simp
    have HT := hide hT
    have cv := rprint8_any xv B w2 (HIN.out w2 hb2).vw hs.v (Nat.le_trans hB hb2.size) m1
    have hsz : (txt (printL xv.v)).size ≤ 1000000 := by rw [txt_size]; exact printL_len m1
    generalize txt (printL xv.v) = q1 at *
    clear m1 m2 hT
    go_wp2_with fail
    refine cv.mono ?_
    rintro e w3 ⟨rfl, hb⟩
    have hb3 := hb2.trans (hb.mono hb2.size)
    go_wp2
    go_ret
    exact ⟨ret_str HT.out, hb3⟩
  have q3 : (kind == 3) = false := by rw [beq_eq_false_iff_ne]; exact k3
  have hT : L = [110, 111, 112] := by
    rw [HTX.out]
    unfold textL Cx.m
    rw [if_neg k2, if_neg k3]
  have HT := hide hT
  clear hT
  go_wp2
  go_ret
  exact ⟨ret_str (by rw [HT.out]; rfl), hb2⟩
end Go.Proofs.YtjmkecaljkcoiaaGreatDoor
