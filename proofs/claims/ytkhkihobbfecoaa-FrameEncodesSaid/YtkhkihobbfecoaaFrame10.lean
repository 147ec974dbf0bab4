/-
  Frames: the document's form.
-/
import Derived.Test.YtkhkihobbfecoaaFrame2
import Derived.Deep.RegionHeld3
namespace Go.Proofs.Ytkhkihobbfecoaa
open Go.RowKit
set_option linter.unusedVariables false
set_option linter.unusedSimpArgs false

theorem PkAt.setOld {w : World} {b i c j d s n q : Nat} {k : Int} {A : Option Addr} (h : PkAt w b k i c j d s A n q) {p : Addr} (hp : b ≠ p.block) (u : Value) : PkAt (w.setCell p u) b k i c j d s A n q := (heap_setCell_other w p b u hp).trans h
theorem LentB.setOld {w : World} {g : Nat} {l : List UInt8} (h : LentB w g l) {p : Addr} (hp : g ≠ p.block) (u : Value) : LentB (w.setCell p u) g l := (heap_setCell_other w p g u hp).trans h
theorem LentB.later {w w' : World} {g : Nat} {l : List UInt8} (h : LentB w g l) (hb : Below w.heap.size w w') : LentB w' g l := BlkB.later h hb
set_option maxRecDepth 100000 in
set_option maxHeartbeats 1000000 in
theorem rframe_any (k i c j d s : Nat) (A : Option Addr) (n q m : Nat) (l : List UInt8) (w : World) (hA : Bs w w.heap.size A n l) (hi : i < 65536) (hc : c < 4294967296) (hj : j < 65536) (hd : d < 4294967296) (hs : s < 18446744073709551616) (hf : checkF (k : Int) i c j d n = 0) (hm : m = (frameL k i c j d s l).length) :
    Calls Try.prog 14 #[.agg #[.int .i64 (k : Int), .int .u16 (i : Int), .int .u32 (c : Int), .int .u16 (j : Int), .int .u32 (d : Int), .int .u64 (s : Int), .slice A n q]] w fun e w' => ∃ A' c', e = .returned (.slice A' m c') ∧ OwnB w' w.heap.size (.slice A' m c') m (frameL k i c j d s l) ∧ Below w.heap.size w w' := by
  obtain ⟨k0, k3, i16, c0, j16, d0, hn⟩ := checkF_ok hf
  have hk3 : k ≤ 3 := by omega
  have hlen := hA.len
  have hfl := fldL_len i c j d s
  have r1 := fun W => rpid_any i c W hi hc
  have r2 := fun W => rpid_any j d W hj hd
  have r3 := fun W => rshort_any s W hs
  obtain ⟨li, hli⟩ : ∃ x, x = (pidL i c).length := ⟨_, rfl⟩
  obtain ⟨lj, hlj⟩ : ∃ x, x = (pidL j d).length := ⟨_, rfl⟩
  obtain ⟨ls, hls⟩ : ∃ x, x = (shortL s).length := ⟨_, rfl⟩
  have hpi := pidL_len i c
  have hpj := pidL_len j d
  have hps := (shortL_len s).2
  unfold MakesB at r1 r2
  rw [← hli] at r1 hpi
  rw [← hlj] at r2 hpj
  rw [← hls] at r3 hps
  have hfl2 : (fldL i c j d s).length = li + lj + ls := by rw [fldL, List.length_append, List.length_append, ← hlj, ← hli, ← hls]
  have hwh : m = 12 + (li + lj + ls + n) := by rw [hm, frameL_len, hfl2, hlen]
  have hbare : bareL k i c j d s l = [86, 83, 1, lowB k] ++ formL (12 + (li + lj + ls + n)) 4 ++ (fldL i c j d s ++ l) := by rw [bareL, headL, hfl2, hlen]
  have hfld : fldL i c j d s ++ l = pidL i c ++ pidL j d ++ shortL s ++ l := rfl
  have wk : IntKind.u8.wrap (k : Int) = ((lowB k).toNat : Int) := wrap_u8_low k
  have HLI := hide hli
  have HB := hide hbare
  have HF := hide hfld
  have HM := hide hwh
  have HL := hide hlen
  clear hf hlen hli hlj hls hfl hfl2 hm hwh hbare hfld k0 k3
  have hb0 : Below w.heap.size w (w.alloc (.cells #[.int .i64 (k : Int), .int .u16 (i : Int), .int .u32 (c : Int), .int .u16 (j : Int), .int .u32 (d : Int), .int .u64 (s : Int), .slice A n q] 29)) := (Below.refl _ _).alloc (Nat.le_refl _) _
  have hA1 := (hA.below hb0).more hb0.size
  have hP1 : PkAt (w.alloc (.cells #[.int .i64 (k : Int), .int .u16 (i : Int), .int .u32 (c : Int), .int .u16 (j : Int), .int .u32 (d : Int), .int .u64 (s : Int), .slice A n q] 29)) w.heap.size k i c j d s A n q := PkAt.new w
  go_enter Try.func14, Try.ntmps14
  go_wp2
  generalize (w.alloc (.cells #[.int .i64 (k : Int), .int .u16 (i : Int), .int .u32 (c : Int), .int .u16 (j : Int), .int .u32 (d : Int), .int .u64 (s : Int), .slice A n q] 29)) = w1 at hb0 hA1 hP1 ⊢
  have K := hide (fun (v : World) (h : Below w1.heap.size w1 v) => (⟨(hP1.later h).cells.2.1, (hP1.later h).cells.2.2.1, (hP1.later h).cells.2.2.2.1, (hP1.later h).cells.2.2.2.2.1⟩ :
    v.cell? ⟨w.heap.size, 1, none⟩ = some (.int .u16 (i : Int)) ∧ v.cell? ⟨w.heap.size, 2, none⟩ = some (.int .u32 (c : Int)) ∧ v.cell? ⟨w.heap.size, 3, none⟩ = some (.int .u16 (j : Int)) ∧ v.cell? ⟨w.heap.size, 4, none⟩ = some (.int .u32 (d : Int))))
  go_region_held3 (fun v => v.cell? ⟨w.heap.size, 1, none⟩ = some (.int .u16 (i : Int)) ∧ v.cell? ⟨w.heap.size, 2, none⟩ = some (.int .u32 (c : Int)) ∧ v.cell? ⟨w.heap.size, 3, none⟩ = some (.int .u16 (j : Int)) ∧ v.cell? ⟨w.heap.size, 4, none⟩ = some (.int .u32 (d : Int)))
    (first | exact K.out _ ((Below.refl _ _).drew) | exact K.out _ hq2 | exact K.out _ hq3 | exact K.out _ hq4)
    (first | ((with_reducible refine (r1 _).mono ?_); rintro e w2 ⟨A2, c2, rfl, ho2, hb2⟩; have hq2 : Below w1.heap.size w1 w2 := Below.trans ((Below.refl _ _).drew) hb2) | ((with_reducible refine (r2 _).mono ?_); rintro e w3 ⟨A3, c3, rfl, ho3, hb3⟩; have hq3 : Below w1.heap.size w1 w3 := hq2.trans (hb3.mono hq2.size)) | (refine step_bytes_own _ rfl (.tmp 7) (.tmp 10) rfl w1.heap.size li _ (pidL i c) (by simp [Act.eval, Act.put]) (ho2.later hb3) _ A3 lj c3 (pidL j d) (by simp [Act.eval, Act.put]) ho3.bs (by omega) w1.heap.size w1 hq3 (Nat.le_refl _) hq3.size ?_; intro A4 c4 w4 ho4 hq4 _))
  have hP4 := hP1.later hq4
  have hA4 := (hA1.below hq4).more hq4.size
  clear r1 r2 ho2 hb2 hq2 ho3 hb3 hq3 K
  obtain ⟨f0, f1, f2, f3, f4, f5, f6⟩ := hP4.cells
  go_wp2_with fail
  refine (r3 _).mono ?_
  rintro e w5 ⟨A5, c5, rfl, ho5, hb5⟩
  have hq5 : Below w1.heap.size w1 w5 := hq4.trans (hb5.mono hq4.size)
  have hP5 := hP1.later hq5
  have ho4' := ho4.later hb5
  have b5 : li + lj + ls ≤ 140737488355328 := by omega
  clear r3 ho4 hb5 hP4 hA4 f0 f1 f2 f3 f4 f5 f6
  go_wp2_with (at_builtin; refine wp_bytes_own _ rfl (.tmp 12) (.tmp 15) rfl w1.heap.size (li + lj) _ (pidL i c ++ pidL j d) rfl ho4' _ A5 ls c5 (shortL s) rfl ho5.bs b5 w1.heap.size w1 hq5 (Nat.le_refl _) hq5.size ?_)
  intro A6 c6 w6 ho6 hq6 hsz6
  have ho6' : OwnB w6 w1.heap.size (.slice A6 (li + lj + ls) c6) (li + lj + ls) (pidL i c ++ pidL j d ++ shortL s) := by simpa using ho6
  have hP6 := hP1.later hq6
  have hA6 := (hA1.below hq6).more hq6.size
  have b6 : li + lj + ls + n ≤ 140737488355328 := by omega
  clear ho4' ho5 hq5 hP5 ho6 hsz6
  obtain ⟨f0, f1, f2, f3, f4, f5, f6⟩ := hP6.cells
  go_wp2_with (at_builtin; refine wp_bytes_own _ rfl (.tmp 17) (.tmp 19) rfl w1.heap.size (li + lj + ls) _ (pidL i c ++ pidL j d ++ shortL s) rfl ho6' _ A n q l rfl hA6 b6 w1.heap.size w1 hq6 (Nat.le_refl _) hq6.size ?_)
  intro A7 c7 w7 ho7 hq7 hsz7
  have ho7' : OwnB w7 w1.heap.size (.slice A7 (li + lj + ls + n) c7) (li + lj + ls + n) (fldL i c j d s ++ l) := by simpa [fldL] using ho7
  have hP7 := hP1.later hq7
  clear ho6' hq6 hP6 hA6 ho7 hsz7 f0 f1 f2 f3 f4 f5 f6
  obtain ⟨fr, hfr⟩ : ∃ fr, fr = li + lj + ls + n := ⟨_, rfl⟩
  rw [← hfr] at HB HM ho7' ⊢
  have hfb : fr ≤ 5000 := by omega
  obtain ⟨mm, hmm⟩ : ∃ mm, mm = 12 + fr := ⟨_, rfl⟩
  rw [← hmm] at HB HM
  have e12 : (fr : Int) + 12 = (mm : Int) := by omega
  have wmm : IntKind.u64.wrap (mm : Int) = (mm : Int) := by rw [IntKind.wrap_u64]; omega
  have hmb : mm ≤ 6000 := by omega
  obtain ⟨R, hR⟩ : ∃ R, R = fldL i c j d s ++ l := ⟨_, rfl⟩
  rw [← hR] at HB ho7'
  have HMM := hide hmm
  clear hfr hmm hR b5 b6
  obtain ⟨f0, f1, f2, f3, f4, f5, f6⟩ := hP7.cells
  have hoL := own_lit w7 w7.heap.size 4 [86, 83, 1, lowB k] #[.int .u8 86, .int .u8 83, .int .u8 1, .int .u8 ((lowB k).toNat : Int)] rfl rfl (by decide) (Nat.le_refl _)
  have hqL : Below w7.heap.size w7 (w7.alloc (.cells #[.int .u8 86, .int .u8 83, .int .u8 1, .int .u8 ((lowB k).toNat : Int)] 5)) := (Below.refl _ _).alloc (Nat.le_refl _) _
  go_wp2_with fail
  refine (rform_any mm 4 _ (by omega) (by decide)).mono ?_
  rintro e w9 ⟨rfl, hF9, hb9⟩
  simp only [World.size_alloc] at hF9
  have hq9 : Below w7.heap.size w7 w9 := hqL.trans (hb9.mono (by simp))
  have hF := (hF9.own (base := 0) (n := 4) (c := 4) (l := formL mm 4) (Nat.zero_le _) (Nat.le_refl _) (by decide) (by rw [bvs_len, formL_len]) (List.take_of_length_le (by rw [bvs_len, formL_len]; exact Nat.le_refl _)) (formL_len _ _)).bs
  have hoL9 := hoL.later hb9
  have b8 : 4 + 4 ≤ 140737488355328 := by decide
  clear hoL hqL hb9 f0 f1 f2 f3 f4 f5 f6
  go_wp2_with (at_builtin; refine wp_bytes_own _ rfl (.tmp 25) (.tmp 30) rfl w7.heap.size 4 _ [86, 83, 1, lowB k] rfl hoL9 _ _ 4 4 (formL mm 4) rfl hF b8 w7.heap.size w7 hq9 (Nat.le_refl _) hq9.size ?_)
  intro A10 c10 w10 ho10 hq10 hsz10
  have ho10' : OwnB w10 w7.heap.size (.slice A10 8 c10) 8 ([86, 83, 1, lowB k] ++ formL mm 4) := ho10
  have hR10 := (ho7'.later hq10).bs
  have b9 : 8 + fr ≤ 140737488355328 := by omega
  clear hoL9 hF9 hF hq9 ho10 hsz10
  go_wp2_with (at_builtin; refine wp_bytes_own _ rfl (.tmp 32) (.tmp 33) rfl w7.heap.size 8 _ ([86, 83, 1, lowB k] ++ formL mm 4) rfl ho10' _ A7 fr c7 R rfl hR10 b9 w7.heap.size w7 hq10 (Nat.le_refl _) hq10.size ?_)
  intro A11 c11 w11 ho11 hq11 hsz11
  have ho11' : OwnB w11 w7.heap.size (.slice A11 (8 + fr) c11) (8 + fr) (bareL k i c j d s l) := by rw [HB.out]; simpa using ho11
  clear ho10' hR10 hq10 ho11 hsz11
  go_wp2_with fail
  refine (rseal_any A11 (8 + fr) c11 _ _ _ ho11'.bs (Nat.le_refl _) (by omega)).mono ?_
  rintro e w12 ⟨A12, c12, rfl, ho12, hb12⟩
  have hz1 : Below w1.heap.size w1 w12 := hq7.trans ((hq11.trans (hb12.mono hq11.size)).mono hq7.size)
  have hbz := hb0.trans (hz1.mono hb0.size)
  have em : 8 + fr + 4 = m := by rw [HM.out, HMM.out]; omega
  have hoz := ho12.mono (base' := w.heap.size) (by have := hq11.size; have := hq7.size; have := hb0.size; omega)
  rw [em] at hoz ⊢
  clear ho11' hq11 ho12 hb12 em e12
  go_wp2
  go_ret
  exact ⟨_, _, rfl, hoz, hbz⟩
end Go.Proofs.Ytkhkihobbfecoaa
