/-
  Frames: the contract of Decode: what is sealed.
-/
import Derived.Test.YtkhkihobbfecoaaFrame8
namespace Go.Proofs.Ytkhkihobbfecoaa
open Go.RowKit
set_option linter.unusedVariables false
set_option linter.unusedSimpArgs false

set_option maxRecDepth 100000 in
set_option maxHeartbeats 1000000 in
theorem decode_e (A : Option Addr) (n q : Nat) (l : List UInt8) (w : World) (hA : Bs w w.heap.size A n l) (hn : n ≤ q) (hq : q ≤ maxLen) (hn5 : n ≤ 70368744177664) (h12 : 12 ≤ l.length) (h2 : l.take 3 = [86, 83, 1]) (h3 : numL ((l.drop 4).take 4) = l.length) (h4 : numL (l.drop (l.length - 4)) = sumN (l.take (l.length - 4))) (h5 : fieldsF ((l.take (l.length - 4)).drop 8) = none) :
    Calls Try.prog 16 #[.slice A n q] w (DecodeP w l) := by
  have hlen := hA.len
  have hb0 : Below w.heap.size w (w.alloc (.cells #[.int .i64 (0 : Int), .int .u16 (0 : Int), .int .u32 (0 : Int), .int .u16 (0 : Int), .int .u32 (0 : Int), .int .u64 (0 : Int), .slice none 0 0] 29)) := (Below.refl _ _).alloc (Nat.le_refl _) _
  have hA1 := hA.alloc (Nat.le_refl _) (.cells #[.int .i64 (0 : Int), .int .u16 (0 : Int), .int .u32 (0 : Int), .int .u16 (0 : Int), .int .u32 (0 : Int), .int .u64 (0 : Int), .slice none 0 0] 29)
  have hP0 : PkAt (w.alloc (.cells #[.int .i64 (0 : Int), .int .u16 (0 : Int), .int .u32 (0 : Int), .int .u16 (0 : Int), .int .u32 (0 : Int), .int .u64 (0 : Int), .slice none 0 0] 29)) w.heap.size 0 0 0 0 0 0 none 0 0 := PkAt.new w
  have h1 : ¬ n < 12 := by omega
  have t1 : ((n : Int) < 12) = False := by simp; omega
  have cg := get8_any A n q l _ _ hA1 (by unfold maxLen at *; omega) hn (by omega)
  obtain ⟨H, m3, sz, kk, hHe, hm3e, hsze, hkke, hs4, hk8, d1, d2, d3, hmk⟩ := head_parts h12
  rw [← hHe] at cg
  clear hHe hm3e
  have hE := decE_5 h12 h2 h3 h4 h5
  have HE := hide hE
  clear hE
  obtain rfl := hmk.1 h2
  rw [← hsze, hlen] at h3
  subst h3
  have w3 : IntKind.u64.wrap (sz : Int) = (sz : Int) := by rw [IntKind.wrap_u64]; omega
  obtain ⟨m, hm⟩ : ∃ m, sz = m + 4 := ⟨sz - 4, by omega⟩
  have hm4 : l.length - 4 = m := by omega
  have cf := fun W X x y (h : Bs W W.heap.size X x ((l.take m).drop 8)) h1 h2 h3 => fields_any X x y ((l.take m).drop 8) W h h1 h2 h3
  rw [hm4] at h4 h5
  have co := open_yes A m sz q l _ _ hA1 (by simp) hm hn hn5 h4
  have hm8 : 8 ≤ m := by omega
  have hmb : m ≤ 70368744177660 := by omega
  have HM := hide hm
  clear hlen hmk hsze hkke h4 hm hm4 h2
  unfold maxLen at hq
  go_enter Try.func16, Try.ntmps16
  go_wp2_with fail
  refine cg.mono ?_
  rintro e w1 ⟨rfl, rfl⟩
  clear cg
  go_wp2_with fail
  refine co.mono ?_
  rintro e w1 ⟨A1, c1, rfl, hO1, hb1⟩
  obtain ⟨g, rfl, hg1, hg2⟩ := hO1.block (by omega)
  have hcap := hO1.cap
  have hmax := hO1.room
  have hB := hO1.bs.cut hm8 hcap
  have hx1 := hb0.trans (hb1.mono (by simp))
  have hP1 := hP0.later hb1
  clear hb1 co hA1 hb0 hP0
  by_cases hc8 : c1 = 8
  · obtain rfl : m = 8 := by omega
    subst hc8
    simp only [if_true, Nat.sub_self] at hB
    go_wp2_with fail
    refine (cf w1 _ _ _ hB (by omega) (by omega) (by omega)).mono ?_
    rintro e w2 ⟨i', c', j', d', s', A2, n2, q2, t, rfl, hb2, ⟨hi, hc, hj, hd, hs⟩, hcase⟩
    have hP2 := hP1.later hb2
    have hx2 := hx1.trans (hb2.mono hx1.size)
    have hlt := hP2.lt
    have hs1 := hx1.size
    rcases hcase with ⟨hf, ht⟩ | ⟨r', hf, -⟩
    · clear hb2 hB hO1 cf hP1 hx1 hf
      have t1 : ((t : Int) != 0) = true := by simp; omega
      obtain ⟨f0, f1, f2, f3, f4, f5, f6⟩ := hP2.cells
      have fz := hP2.frozen
      have hxy := below_put hx2 (Nat.le_refl _) 0 0 0 0 0 0 none 0 0
      have hxz := hxy.alloc hxy.size (.cells #[.int .i64 ((kk : Int) : Int), .int .u16 (i' : Int), .int .u32 (c' : Int), .int .u16 (j' : Int), .int .u32 (d' : Int), .int .u64 (s' : Int), .slice A2 n2 q2] 29)
      have hPz := (hP2.put 0 0 0 0 0 0 none 0 0).alloc (.cells #[.int .i64 ((kk : Int) : Int), .int .u16 (i' : Int), .int .u32 (c' : Int), .int .u16 (j' : Int), .int .u32 (d' : Int), .int .u64 (s' : Int), .slice A2 n2 q2] 29)
      clear hP2 hx2 hxy
      go_wp2
      generalize ((((((((w2.setCell ⟨w.heap.size, 0, none⟩ (.int .i64 (0 : Int))).setCell ⟨w.heap.size, 1, none⟩ (.int .u16 (0 : Int))).setCell ⟨w.heap.size, 2, none⟩ (.int .u32 (0 : Int))).setCell ⟨w.heap.size, 3, none⟩ (.int .u16 (0 : Int))).setCell ⟨w.heap.size, 4, none⟩ (.int .u32 (0 : Int))).setCell ⟨w.heap.size, 5, none⟩ (.int .u64 (0 : Int))).setCell ⟨w.heap.size, 6, none⟩ (.slice none 0 0)).alloc (.cells #[.int .i64 (kk : Int), .int .u16 (i' : Int), .int .u32 (c' : Int), .int .u16 (j' : Int), .int .u32 (d' : Int), .int .u64 (s' : Int), .slice A2 n2 q2] 29)) = W at hPz hxz ⊢
      have HR := hide (⟨hxz, .inl ⟨by rw [HE.out]; decide, by rw [HE.out]; rfl⟩⟩ : DecodeP w l (.returned (.tuple #[.agg #[.int .i64 (0 : Int), .int .u16 (0 : Int), .int .u32 (0 : Int), .int .u16 (0 : Int), .int .u32 (0 : Int), .int .u64 (0 : Int), .slice none 0 0], .int .i64 5])) W)
      clear f0 f1 f2 f3 f4 f5 f6 fz
      obtain ⟨f0, f1, f2, f3, f4, f5, f6⟩ := hPz.cells
      exact bodyPost_ret (v := .tuple #[.agg #[.int .i64 (0 : Int), .int .u16 (0 : Int), .int .u32 (0 : Int), .int .u16 (0 : Int), .int .u32 (0 : Int), .int .u64 (0 : Int), .slice none 0 0], .int .i64 5]) (by simp [results, Try.results16, go_sem, f0, f1, f2, f3, f4, f5, f6]) rfl HR.out
    · rw [h5] at hf
      cases hf
  · rw [if_neg hc8] at hB
    have h8c : 8 < c1 := by omega
    go_wp2_with fail
    refine (cf w1 _ _ _ hB (by omega) (by omega) (by omega)).mono ?_
    rintro e w2 ⟨i', c', j', d', s', A2, n2, q2, t, rfl, hb2, ⟨hi, hc, hj, hd, hs⟩, hcase⟩
    have hP2 := hP1.later hb2
    have hx2 := hx1.trans (hb2.mono hx1.size)
    have hlt := hP2.lt
    have hs1 := hx1.size
    rcases hcase with ⟨hf, ht⟩ | ⟨r', hf, -⟩
    · clear hb2 hB hO1 cf hP1 hx1 hf
      have t1 : ((t : Int) != 0) = true := by simp; omega
      obtain ⟨f0, f1, f2, f3, f4, f5, f6⟩ := hP2.cells
      have fz := hP2.frozen
      have hxy := below_put hx2 (Nat.le_refl _) 0 0 0 0 0 0 none 0 0
      have hxz := hxy.alloc hxy.size (.cells #[.int .i64 ((kk : Int) : Int), .int .u16 (i' : Int), .int .u32 (c' : Int), .int .u16 (j' : Int), .int .u32 (d' : Int), .int .u64 (s' : Int), .slice A2 n2 q2] 29)
      have hPz := (hP2.put 0 0 0 0 0 0 none 0 0).alloc (.cells #[.int .i64 ((kk : Int) : Int), .int .u16 (i' : Int), .int .u32 (c' : Int), .int .u16 (j' : Int), .int .u32 (d' : Int), .int .u64 (s' : Int), .slice A2 n2 q2] 29)
      clear hP2 hx2 hxy
      go_wp2
      generalize ((((((((w2.setCell ⟨w.heap.size, 0, none⟩ (.int .i64 (0 : Int))).setCell ⟨w.heap.size, 1, none⟩ (.int .u16 (0 : Int))).setCell ⟨w.heap.size, 2, none⟩ (.int .u32 (0 : Int))).setCell ⟨w.heap.size, 3, none⟩ (.int .u16 (0 : Int))).setCell ⟨w.heap.size, 4, none⟩ (.int .u32 (0 : Int))).setCell ⟨w.heap.size, 5, none⟩ (.int .u64 (0 : Int))).setCell ⟨w.heap.size, 6, none⟩ (.slice none 0 0)).alloc (.cells #[.int .i64 (kk : Int), .int .u16 (i' : Int), .int .u32 (c' : Int), .int .u16 (j' : Int), .int .u32 (d' : Int), .int .u64 (s' : Int), .slice A2 n2 q2] 29)) = W at hPz hxz ⊢
      have HR := hide (⟨hxz, .inl ⟨by rw [HE.out]; decide, by rw [HE.out]; rfl⟩⟩ : DecodeP w l (.returned (.tuple #[.agg #[.int .i64 (0 : Int), .int .u16 (0 : Int), .int .u32 (0 : Int), .int .u16 (0 : Int), .int .u32 (0 : Int), .int .u64 (0 : Int), .slice none 0 0], .int .i64 5])) W)
      clear f0 f1 f2 f3 f4 f5 f6 fz
      obtain ⟨f0, f1, f2, f3, f4, f5, f6⟩ := hPz.cells
      exact bodyPost_ret (v := .tuple #[.agg #[.int .i64 (0 : Int), .int .u16 (0 : Int), .int .u32 (0 : Int), .int .u16 (0 : Int), .int .u32 (0 : Int), .int .u64 (0 : Int), .slice none 0 0], .int .i64 5]) (by simp [results, Try.results16, go_sem, f0, f1, f2, f3, f4, f5, f6]) rfl HR.out
    · rw [h5] at hf
      cases hf
theorem fieldsF_len {x r : List UInt8} {i c j d s : Nat} (h : fieldsF x = some (i, c, j, d, s, r)) : r.length ≤ x.length := by
  unfold fieldsF at h
  split at h
  · split at h
    · split at h
      · injection h with h
        simp only [Prod.mk.injEq] at h
        obtain ⟨_, _, _, _, _, rfl⟩ := h
        simp only [List.length_drop]
        omega
      · cases h
    · cases h
  · cases h
set_option maxRecDepth 100000 in
set_option maxHeartbeats 1000000 in
theorem decode_f (A : Option Addr) (n q : Nat) (l : List UInt8) (w : World) (hA : Bs w w.heap.size A n l) (hn : n ≤ q) (hq : q ≤ maxLen) (hn5 : n ≤ 70368744177664) (h12 : 12 ≤ l.length) (h2 : l.take 3 = [86, 83, 1]) (h3 : numL ((l.drop 4).take 4) = l.length) (h4 : numL (l.drop (l.length - 4)) = sumN (l.take (l.length - 4))) {i c j d s : Nat} {r : List UInt8} (h5 : fieldsF ((l.take (l.length - 4)).drop 8) = some (i, c, j, d, s, r)) (h6 : checkF ((l.getD 3 0).toNat : Int) i c j d r.length ≠ 0) :
    Calls Try.prog 16 #[.slice A n q] w (DecodeP w l) := by
  have hlen := hA.len
  have hb0 : Below w.heap.size w (w.alloc (.cells #[.int .i64 (0 : Int), .int .u16 (0 : Int), .int .u32 (0 : Int), .int .u16 (0 : Int), .int .u32 (0 : Int), .int .u64 (0 : Int), .slice none 0 0] 29)) := (Below.refl _ _).alloc (Nat.le_refl _) _
  have hA1 := hA.alloc (Nat.le_refl _) (.cells #[.int .i64 (0 : Int), .int .u16 (0 : Int), .int .u32 (0 : Int), .int .u16 (0 : Int), .int .u32 (0 : Int), .int .u64 (0 : Int), .slice none 0 0] 29)
  have hP0 : PkAt (w.alloc (.cells #[.int .i64 (0 : Int), .int .u16 (0 : Int), .int .u32 (0 : Int), .int .u16 (0 : Int), .int .u32 (0 : Int), .int .u64 (0 : Int), .slice none 0 0] 29)) w.heap.size 0 0 0 0 0 0 none 0 0 := PkAt.new w
  have h1 : ¬ n < 12 := by omega
  have t1 : ((n : Int) < 12) = False := by simp; omega
  have cg := get8_any A n q l _ _ hA1 (by unfold maxLen at *; omega) hn (by omega)
  obtain ⟨H, m3, sz, kk, hHe, hm3e, hsze, hkke, hs4, hk8, d1, d2, d3, hmk⟩ := head_parts h12
  rw [← hHe] at cg
  clear hHe hm3e
  have hrl := fieldsF_len h5
  rw [List.length_drop, List.length_take] at hrl
  have hrl : r.length ≤ n := by omega
  have hE := decE_6 h12 h2 h3 h4 h5
  rw [if_pos h6] at hE
  rw [← hkke] at h6
  have HE := hide hE
  clear hE
  obtain rfl := hmk.1 h2
  rw [← hsze, hlen] at h3
  subst h3
  have w3 : IntKind.u64.wrap (sz : Int) = (sz : Int) := by rw [IntKind.wrap_u64]; omega
  obtain ⟨m, hm⟩ : ∃ m, sz = m + 4 := ⟨sz - 4, by omega⟩
  have hm4 : l.length - 4 = m := by omega
  have cf := fun W X x y (h : Bs W W.heap.size X x ((l.take m).drop 8)) h1 h2 h3 => fields_any X x y ((l.take m).drop 8) W h h1 h2 h3
  rw [hm4] at h4 h5
  have co := open_yes A m sz q l _ _ hA1 (by simp) hm hn hn5 h4
  have hm8 : 8 ≤ m := by omega
  have hmb : m ≤ 70368744177660 := by omega
  have HM := hide hm
  clear hlen hmk hsze hkke h4 hm hm4 h2
  unfold maxLen at hq
  go_enter Try.func16, Try.ntmps16
  go_wp2_with fail
  refine cg.mono ?_
  rintro e w1 ⟨rfl, rfl⟩
  clear cg
  go_wp2_with fail
  refine co.mono ?_
  rintro e w1 ⟨A1, c1, rfl, hO1, hb1⟩
  obtain ⟨g, rfl, hg1, hg2⟩ := hO1.block (by omega)
  have hcap := hO1.cap
  have hmax := hO1.room
  have hB := hO1.bs.cut hm8 hcap
  have hx1 := hb0.trans (hb1.mono (by simp))
  have hP1 := hP0.later hb1
  clear hb1 co hA1 hb0 hP0
  by_cases hc8 : c1 = 8
  · obtain rfl : m = 8 := by omega
    subst hc8
    simp only [if_true, Nat.sub_self] at hB
    go_wp2_with fail
    refine (cf w1 _ _ _ hB (by omega) (by omega) (by omega)).mono ?_
    rintro e w2 ⟨i', c', j', d', s', A2, n2, q2, t, rfl, hb2, ⟨hi, hc, hj, hd, hs⟩, hcase⟩
    have hP2 := hP1.later hb2
    have hx2 := hx1.trans (hb2.mono hx1.size)
    have hlt := hP2.lt
    have hs1 := hx1.size
    rcases hcase with ⟨hf, -⟩ | ⟨r', hf, rfl, hn2, hO2⟩
    · rw [h5] at hf
      cases hf
    · rw [h5] at hf
      injection hf with hf
      simp only [Prod.mk.injEq] at hf
      obtain ⟨rfl, rfl, rfl, rfl, rfl, rfl⟩ := hf
      rw [← hn2] at h6 hrl
      have cc := fun W => check_any (kk : Int) i c j d s A2 n2 q2 W (by omega) (by omega) hi hc hj hd (by omega)
      have HN := hide hn2
      have hK2 : PkAt (w2.alloc (.cells #[.int .i64 (kk : Int), .int .u16 (i : Int), .int .u32 (c : Int), .int .u16 (j : Int), .int .u32 (d : Int), .int .u64 (s : Int), .slice A2 n2 q2] 29)) w2.heap.size kk i c j d s A2 n2 q2 := PkAt.new w2
      have hP2' := hP2.alloc (.cells #[.int .i64 ((kk : Int) : Int), .int .u16 (i : Int), .int .u32 (c : Int), .int .u16 (j : Int), .int .u32 (d : Int), .int .u64 (s : Int), .slice A2 n2 q2] 29)
      have hx2' := hx2.alloc (Nat.le_of_lt hlt) (.cells #[.int .i64 ((kk : Int) : Int), .int .u16 (i : Int), .int .u32 (c : Int), .int .u16 (j : Int), .int .u32 (d : Int), .int .u64 (s : Int), .slice A2 n2 q2] 29)
      have hO2' := (hO2.alloc (.cells #[.int .i64 ((kk : Int) : Int), .int .u16 (i : Int), .int .u32 (c : Int), .int .u16 (j : Int), .int .u32 (d : Int), .int .u64 (s : Int), .slice A2 n2 q2] 29))
      have hlt1 := hP1.lt
      obtain ⟨f, hfe⟩ : ∃ f, f = checkF (kk : Int) i c j d n2 := ⟨_, rfl⟩
      rw [← hfe] at cc h6
      clear hb2 hB hO1 cf hP1 hx1 hn2 hP2 hx2 hO2 hfe
      go_wp2_with fail
      refine (cc _).mono ?_
      rintro e w3 ⟨rfl, hb3⟩
      have hP3 := hP2'.later hb3
      have hK3 := hK2.later hb3
      have hx3 := hx2'.trans (hb3.mono hx2'.size)
      have hO3 := hO2'.later hb3
      obtain ⟨f0, f1, f2, f3, f4, f5, f6⟩ := hP3.cells
      have fz := hP3.frozen
      clear hP2' hK2 hx2' hO2' hb3 cc
      have t2 : ((f : Int) != 0) = true := by simp; omega
      have hPz := hP3.put 0 0 0 0 0 0 none 0 0
      have hxz := below_put hx3 (Nat.le_refl _) 0 0 0 0 0 0 none 0 0
      clear hP3 hx3 h6
      go_wp2
      generalize (((((((w3.setCell ⟨w.heap.size, 0, none⟩ (.int .i64 (0 : Int))).setCell ⟨w.heap.size, 1, none⟩ (.int .u16 (0 : Int))).setCell ⟨w.heap.size, 2, none⟩ (.int .u32 (0 : Int))).setCell ⟨w.heap.size, 3, none⟩ (.int .u16 (0 : Int))).setCell ⟨w.heap.size, 4, none⟩ (.int .u32 (0 : Int))).setCell ⟨w.heap.size, 5, none⟩ (.int .u64 (0 : Int))).setCell ⟨w.heap.size, 6, none⟩ (.slice none 0 0)) = W at hPz hxz ⊢
      have HR := hide (⟨hxz, .inl ⟨by rw [HE.out]; decide, by rw [HE.out]; rfl⟩⟩ : DecodeP w l (.returned (.tuple #[.agg #[.int .i64 (0 : Int), .int .u16 (0 : Int), .int .u32 (0 : Int), .int .u16 (0 : Int), .int .u32 (0 : Int), .int .u64 (0 : Int), .slice none 0 0], .int .i64 5])) W)
      clear f0 f1 f2 f3 f4 f5 f6 fz
      obtain ⟨f0, f1, f2, f3, f4, f5, f6⟩ := hPz.cells
      exact bodyPost_ret (v := .tuple #[.agg #[.int .i64 (0 : Int), .int .u16 (0 : Int), .int .u32 (0 : Int), .int .u16 (0 : Int), .int .u32 (0 : Int), .int .u64 (0 : Int), .slice none 0 0], .int .i64 5]) (by simp [results, Try.results16, go_sem, f0, f1, f2, f3, f4, f5, f6]) rfl HR.out
  · rw [if_neg hc8] at hB
    have h8c : 8 < c1 := by omega
    go_wp2_with fail
    refine (cf w1 _ _ _ hB (by omega) (by omega) (by omega)).mono ?_
    rintro e w2 ⟨i', c', j', d', s', A2, n2, q2, t, rfl, hb2, ⟨hi, hc, hj, hd, hs⟩, hcase⟩
    have hP2 := hP1.later hb2
    have hx2 := hx1.trans (hb2.mono hx1.size)
    have hlt := hP2.lt
    have hs1 := hx1.size
    rcases hcase with ⟨hf, -⟩ | ⟨r', hf, rfl, hn2, hO2⟩
    · rw [h5] at hf
      cases hf
    · rw [h5] at hf
      injection hf with hf
      simp only [Prod.mk.injEq] at hf
      obtain ⟨rfl, rfl, rfl, rfl, rfl, rfl⟩ := hf
      rw [← hn2] at h6 hrl
      have cc := fun W => check_any (kk : Int) i c j d s A2 n2 q2 W (by omega) (by omega) hi hc hj hd (by omega)
      have HN := hide hn2
      have hK2 : PkAt (w2.alloc (.cells #[.int .i64 (kk : Int), .int .u16 (i : Int), .int .u32 (c : Int), .int .u16 (j : Int), .int .u32 (d : Int), .int .u64 (s : Int), .slice A2 n2 q2] 29)) w2.heap.size kk i c j d s A2 n2 q2 := PkAt.new w2
      have hP2' := hP2.alloc (.cells #[.int .i64 ((kk : Int) : Int), .int .u16 (i : Int), .int .u32 (c : Int), .int .u16 (j : Int), .int .u32 (d : Int), .int .u64 (s : Int), .slice A2 n2 q2] 29)
      have hx2' := hx2.alloc (Nat.le_of_lt hlt) (.cells #[.int .i64 ((kk : Int) : Int), .int .u16 (i : Int), .int .u32 (c : Int), .int .u16 (j : Int), .int .u32 (d : Int), .int .u64 (s : Int), .slice A2 n2 q2] 29)
      have hO2' := (hO2.alloc (.cells #[.int .i64 ((kk : Int) : Int), .int .u16 (i : Int), .int .u32 (c : Int), .int .u16 (j : Int), .int .u32 (d : Int), .int .u64 (s : Int), .slice A2 n2 q2] 29))
      have hlt1 := hP1.lt
      obtain ⟨f, hfe⟩ : ∃ f, f = checkF (kk : Int) i c j d n2 := ⟨_, rfl⟩
      rw [← hfe] at cc h6
      clear hb2 hB hO1 cf hP1 hx1 hn2 hP2 hx2 hO2 hfe
      go_wp2_with fail
      refine (cc _).mono ?_
      rintro e w3 ⟨rfl, hb3⟩
      have hP3 := hP2'.later hb3
      have hK3 := hK2.later hb3
      have hx3 := hx2'.trans (hb3.mono hx2'.size)
      have hO3 := hO2'.later hb3
      obtain ⟨f0, f1, f2, f3, f4, f5, f6⟩ := hP3.cells
      have fz := hP3.frozen
      clear hP2' hK2 hx2' hO2' hb3 cc
      have t2 : ((f : Int) != 0) = true := by simp; omega
      have hPz := hP3.put 0 0 0 0 0 0 none 0 0
      have hxz := below_put hx3 (Nat.le_refl _) 0 0 0 0 0 0 none 0 0
      clear hP3 hx3 h6
      go_wp2
      generalize (((((((w3.setCell ⟨w.heap.size, 0, none⟩ (.int .i64 (0 : Int))).setCell ⟨w.heap.size, 1, none⟩ (.int .u16 (0 : Int))).setCell ⟨w.heap.size, 2, none⟩ (.int .u32 (0 : Int))).setCell ⟨w.heap.size, 3, none⟩ (.int .u16 (0 : Int))).setCell ⟨w.heap.size, 4, none⟩ (.int .u32 (0 : Int))).setCell ⟨w.heap.size, 5, none⟩ (.int .u64 (0 : Int))).setCell ⟨w.heap.size, 6, none⟩ (.slice none 0 0)) = W at hPz hxz ⊢
      have HR := hide (⟨hxz, .inl ⟨by rw [HE.out]; decide, by rw [HE.out]; rfl⟩⟩ : DecodeP w l (.returned (.tuple #[.agg #[.int .i64 (0 : Int), .int .u16 (0 : Int), .int .u32 (0 : Int), .int .u16 (0 : Int), .int .u32 (0 : Int), .int .u64 (0 : Int), .slice none 0 0], .int .i64 5])) W)
      clear f0 f1 f2 f3 f4 f5 f6 fz
      obtain ⟨f0, f1, f2, f3, f4, f5, f6⟩ := hPz.cells
      exact bodyPost_ret (v := .tuple #[.agg #[.int .i64 (0 : Int), .int .u16 (0 : Int), .int .u32 (0 : Int), .int .u16 (0 : Int), .int .u32 (0 : Int), .int .u64 (0 : Int), .slice none 0 0], .int .i64 5]) (by simp [results, Try.results16, go_sem, f0, f1, f2, f3, f4, f5, f6]) rfl HR.out
set_option maxRecDepth 100000 in
set_option maxHeartbeats 1000000 in
theorem decode_g (A : Option Addr) (n q : Nat) (l : List UInt8) (w : World) (hA : Bs w w.heap.size A n l) (hn : n ≤ q) (hq : q ≤ maxLen) (hn5 : n ≤ 70368744177664) (h12 : 12 ≤ l.length) (h2 : l.take 3 = [86, 83, 1]) (h3 : numL ((l.drop 4).take 4) = l.length) (h4 : numL (l.drop (l.length - 4)) = sumN (l.take (l.length - 4))) {i c j d s : Nat} {r : List UInt8} (h5 : fieldsF ((l.take (l.length - 4)).drop 8) = some (i, c, j, d, s, r)) (h6 : checkF ((l.getD 3 0).toNat : Int) i c j d r.length = 0) :
    Calls Try.prog 16 #[.slice A n q] w (DecodeP w l) := by
  have hlen := hA.len
  have hb0 : Below w.heap.size w (w.alloc (.cells #[.int .i64 (0 : Int), .int .u16 (0 : Int), .int .u32 (0 : Int), .int .u16 (0 : Int), .int .u32 (0 : Int), .int .u64 (0 : Int), .slice none 0 0] 29)) := (Below.refl _ _).alloc (Nat.le_refl _) _
  have hA1 := hA.alloc (Nat.le_refl _) (.cells #[.int .i64 (0 : Int), .int .u16 (0 : Int), .int .u32 (0 : Int), .int .u16 (0 : Int), .int .u32 (0 : Int), .int .u64 (0 : Int), .slice none 0 0] 29)
  have hP0 : PkAt (w.alloc (.cells #[.int .i64 (0 : Int), .int .u16 (0 : Int), .int .u32 (0 : Int), .int .u16 (0 : Int), .int .u32 (0 : Int), .int .u64 (0 : Int), .slice none 0 0] 29)) w.heap.size 0 0 0 0 0 0 none 0 0 := PkAt.new w
  have h1 : ¬ n < 12 := by omega
  have t1 : ((n : Int) < 12) = False := by simp; omega
  have cg := get8_any A n q l _ _ hA1 (by unfold maxLen at *; omega) hn (by omega)
  obtain ⟨H, m3, sz, kk, hHe, hm3e, hsze, hkke, hs4, hk8, d1, d2, d3, hmk⟩ := head_parts h12
  rw [← hHe] at cg
  clear hHe hm3e
  have hrl := fieldsF_len h5
  rw [List.length_drop, List.length_take] at hrl
  have hrl : r.length ≤ n := by omega
  have hE := decE_6 h12 h2 h3 h4 h5
  rw [if_neg (by simpa using h6)] at hE
  rw [← hkke] at h6
  have hI : IsP l kk i c j d s r := ⟨h12, h2, hkke.symm, h3, h4, h5, h6⟩
  have HE := hide hE
  have HI := hide hI
  clear hE hI
  obtain rfl := hmk.1 h2
  rw [← hsze, hlen] at h3
  subst h3
  have w3 : IntKind.u64.wrap (sz : Int) = (sz : Int) := by rw [IntKind.wrap_u64]; omega
  obtain ⟨m, hm⟩ : ∃ m, sz = m + 4 := ⟨sz - 4, by omega⟩
  have hm4 : l.length - 4 = m := by omega
  have cf := fun W X x y (h : Bs W W.heap.size X x ((l.take m).drop 8)) h1 h2 h3 => fields_any X x y ((l.take m).drop 8) W h h1 h2 h3
  rw [hm4] at h4 h5
  have co := open_yes A m sz q l _ _ hA1 (by simp) hm hn hn5 h4
  have hm8 : 8 ≤ m := by omega
  have hmb : m ≤ 70368744177660 := by omega
  have HM := hide hm
  clear hlen hmk hsze hkke h4 hm hm4 h2
  unfold maxLen at hq
  go_enter Try.func16, Try.ntmps16
  go_wp2_with fail
  refine cg.mono ?_
  rintro e w1 ⟨rfl, rfl⟩
  clear cg
  go_wp2_with fail
  refine co.mono ?_
  rintro e w1 ⟨A1, c1, rfl, hO1, hb1⟩
  obtain ⟨g, rfl, hg1, hg2⟩ := hO1.block (by omega)
  have hcap := hO1.cap
  have hmax := hO1.room
  have hB := hO1.bs.cut hm8 hcap
  have hx1 := hb0.trans (hb1.mono (by simp))
  have hP1 := hP0.later hb1
  clear hb1 co hA1 hb0 hP0
  by_cases hc8 : c1 = 8
  · obtain rfl : m = 8 := by omega
    subst hc8
    simp only [if_true, Nat.sub_self] at hB
    go_wp2_with fail
    refine (cf w1 _ _ _ hB (by omega) (by omega) (by omega)).mono ?_
    rintro e w2 ⟨i', c', j', d', s', A2, n2, q2, t, rfl, hb2, ⟨hi, hc, hj, hd, hs⟩, hcase⟩
    have hP2 := hP1.later hb2
    have hx2 := hx1.trans (hb2.mono hx1.size)
    have hlt := hP2.lt
    have hs1 := hx1.size
    rcases hcase with ⟨hf, -⟩ | ⟨r', hf, rfl, hn2, hO2⟩
    · rw [h5] at hf
      cases hf
    · rw [h5] at hf
      injection hf with hf
      simp only [Prod.mk.injEq] at hf
      obtain ⟨rfl, rfl, rfl, rfl, rfl, rfl⟩ := hf
      rw [← hn2] at h6 hrl
      have cc := fun W => check_any (kk : Int) i c j d s A2 n2 q2 W (by omega) (by omega) hi hc hj hd (by omega)
      have HN := hide hn2
      have hK2 : PkAt (w2.alloc (.cells #[.int .i64 (kk : Int), .int .u16 (i : Int), .int .u32 (c : Int), .int .u16 (j : Int), .int .u32 (d : Int), .int .u64 (s : Int), .slice A2 n2 q2] 29)) w2.heap.size kk i c j d s A2 n2 q2 := PkAt.new w2
      have hP2' := hP2.alloc (.cells #[.int .i64 ((kk : Int) : Int), .int .u16 (i : Int), .int .u32 (c : Int), .int .u16 (j : Int), .int .u32 (d : Int), .int .u64 (s : Int), .slice A2 n2 q2] 29)
      have hx2' := hx2.alloc (Nat.le_of_lt hlt) (.cells #[.int .i64 ((kk : Int) : Int), .int .u16 (i : Int), .int .u32 (c : Int), .int .u16 (j : Int), .int .u32 (d : Int), .int .u64 (s : Int), .slice A2 n2 q2] 29)
      have hO2' := (hO2.alloc (.cells #[.int .i64 ((kk : Int) : Int), .int .u16 (i : Int), .int .u32 (c : Int), .int .u16 (j : Int), .int .u32 (d : Int), .int .u64 (s : Int), .slice A2 n2 q2] 29))
      have hlt1 := hP1.lt
      obtain ⟨f, hfe⟩ : ∃ f, f = checkF (kk : Int) i c j d n2 := ⟨_, rfl⟩
      rw [← hfe] at cc h6
      clear hb2 hB hO1 cf hP1 hx1 hn2 hP2 hx2 hO2 hfe
      go_wp2_with fail
      refine (cc _).mono ?_
      rintro e w3 ⟨rfl, hb3⟩
      have hP3 := hP2'.later hb3
      have hK3 := hK2.later hb3
      have hx3 := hx2'.trans (hb3.mono hx2'.size)
      have hO3 := hO2'.later hb3
      obtain ⟨f0, f1, f2, f3, f4, f5, f6⟩ := hP3.cells
      have fz := hP3.frozen
      clear hP2' hK2 hx2' hO2' hb3 cc
      subst h6
      obtain ⟨k0, k1, k2, k3, k4, k5, k6⟩ := hK3.cells
      have hPz := hP3.put kk i c j d s A2 n2 q2
      have hxz := below_put hx3 (Nat.le_refl _) kk i c j d s A2 n2 q2
      have hOz := (hO3.put hlt1 kk i c j d s A2 n2 q2).mono (base' := w.heap.size) (Nat.le_of_lt hlt1)
      clear hP3 hx3 hO3
      go_wp2
      generalize (((((((w3.setCell ⟨w.heap.size, 0, none⟩ (.int .i64 (kk : Int))).setCell ⟨w.heap.size, 1, none⟩ (.int .u16 (i : Int))).setCell ⟨w.heap.size, 2, none⟩ (.int .u32 (c : Int))).setCell ⟨w.heap.size, 3, none⟩ (.int .u16 (j : Int))).setCell ⟨w.heap.size, 4, none⟩ (.int .u32 (d : Int))).setCell ⟨w.heap.size, 5, none⟩ (.int .u64 (s : Int))).setCell ⟨w.heap.size, 6, none⟩ (.slice A2 n2 q2)) = W at hPz hxz hOz ⊢
      have hR : DecodeP w l (.returned (.tuple #[.agg #[.int .i64 (kk : Int), .int .u16 (i : Int), .int .u32 (c : Int), .int .u16 (j : Int), .int .u32 (d : Int), .int .u64 (s : Int), .slice A2 n2 q2], .int .i64 0])) W := by
        have e := HN.out
        subst e
        exact ⟨hxz, .inr ⟨kk, i, c, j, d, s, r, A2, q2, HE.out, HI.out, ⟨hi, hc, hj, hd, hs⟩, rfl, hOz⟩⟩
      have HR := hide hR
      clear hR hOz k0 k1 k2 k3 k4 k5 k6 f0 f1 f2 f3 f4 f5 f6 fz
      obtain ⟨f0, f1, f2, f3, f4, f5, f6⟩ := hPz.cells
      exact bodyPost_ret (v := .tuple #[.agg #[.int .i64 (kk : Int), .int .u16 (i : Int), .int .u32 (c : Int), .int .u16 (j : Int), .int .u32 (d : Int), .int .u64 (s : Int), .slice A2 n2 q2], .int .i64 0]) (by simp [results, Try.results16, go_sem, f0, f1, f2, f3, f4, f5, f6]) rfl HR.out
  · rw [if_neg hc8] at hB
    have h8c : 8 < c1 := by omega
    go_wp2_with fail
    refine (cf w1 _ _ _ hB (by omega) (by omega) (by omega)).mono ?_
    rintro e w2 ⟨i', c', j', d', s', A2, n2, q2, t, rfl, hb2, ⟨hi, hc, hj, hd, hs⟩, hcase⟩
    have hP2 := hP1.later hb2
    have hx2 := hx1.trans (hb2.mono hx1.size)
    have hlt := hP2.lt
    have hs1 := hx1.size
    rcases hcase with ⟨hf, -⟩ | ⟨r', hf, rfl, hn2, hO2⟩
    · rw [h5] at hf
      cases hf
    · rw [h5] at hf
      injection hf with hf
      simp only [Prod.mk.injEq] at hf
      obtain ⟨rfl, rfl, rfl, rfl, rfl, rfl⟩ := hf
      rw [← hn2] at h6 hrl
      have cc := fun W => check_any (kk : Int) i c j d s A2 n2 q2 W (by omega) (by omega) hi hc hj hd (by omega)
      have HN := hide hn2
      have hK2 : PkAt (w2.alloc (.cells #[.int .i64 (kk : Int), .int .u16 (i : Int), .int .u32 (c : Int), .int .u16 (j : Int), .int .u32 (d : Int), .int .u64 (s : Int), .slice A2 n2 q2] 29)) w2.heap.size kk i c j d s A2 n2 q2 := PkAt.new w2
      have hP2' := hP2.alloc (.cells #[.int .i64 ((kk : Int) : Int), .int .u16 (i : Int), .int .u32 (c : Int), .int .u16 (j : Int), .int .u32 (d : Int), .int .u64 (s : Int), .slice A2 n2 q2] 29)
      have hx2' := hx2.alloc (Nat.le_of_lt hlt) (.cells #[.int .i64 ((kk : Int) : Int), .int .u16 (i : Int), .int .u32 (c : Int), .int .u16 (j : Int), .int .u32 (d : Int), .int .u64 (s : Int), .slice A2 n2 q2] 29)
      have hO2' := (hO2.alloc (.cells #[.int .i64 ((kk : Int) : Int), .int .u16 (i : Int), .int .u32 (c : Int), .int .u16 (j : Int), .int .u32 (d : Int), .int .u64 (s : Int), .slice A2 n2 q2] 29))
      have hlt1 := hP1.lt
      obtain ⟨f, hfe⟩ : ∃ f, f = checkF (kk : Int) i c j d n2 := ⟨_, rfl⟩
      rw [← hfe] at cc h6
      clear hb2 hB hO1 cf hP1 hx1 hn2 hP2 hx2 hO2 hfe
      go_wp2_with fail
      refine (cc _).mono ?_
      rintro e w3 ⟨rfl, hb3⟩
      have hP3 := hP2'.later hb3
      have hK3 := hK2.later hb3
      have hx3 := hx2'.trans (hb3.mono hx2'.size)
      have hO3 := hO2'.later hb3
      obtain ⟨f0, f1, f2, f3, f4, f5, f6⟩ := hP3.cells
      have fz := hP3.frozen
      clear hP2' hK2 hx2' hO2' hb3 cc
      subst h6
      obtain ⟨k0, k1, k2, k3, k4, k5, k6⟩ := hK3.cells
      have hPz := hP3.put kk i c j d s A2 n2 q2
      have hxz := below_put hx3 (Nat.le_refl _) kk i c j d s A2 n2 q2
      have hOz := (hO3.put hlt1 kk i c j d s A2 n2 q2).mono (base' := w.heap.size) (Nat.le_of_lt hlt1)
      clear hP3 hx3 hO3
      go_wp2
      generalize (((((((w3.setCell ⟨w.heap.size, 0, none⟩ (.int .i64 (kk : Int))).setCell ⟨w.heap.size, 1, none⟩ (.int .u16 (i : Int))).setCell ⟨w.heap.size, 2, none⟩ (.int .u32 (c : Int))).setCell ⟨w.heap.size, 3, none⟩ (.int .u16 (j : Int))).setCell ⟨w.heap.size, 4, none⟩ (.int .u32 (d : Int))).setCell ⟨w.heap.size, 5, none⟩ (.int .u64 (s : Int))).setCell ⟨w.heap.size, 6, none⟩ (.slice A2 n2 q2)) = W at hPz hxz hOz ⊢
      have hR : DecodeP w l (.returned (.tuple #[.agg #[.int .i64 (kk : Int), .int .u16 (i : Int), .int .u32 (c : Int), .int .u16 (j : Int), .int .u32 (d : Int), .int .u64 (s : Int), .slice A2 n2 q2], .int .i64 0])) W := by
        have e := HN.out
        subst e
        exact ⟨hxz, .inr ⟨kk, i, c, j, d, s, r, A2, q2, HE.out, HI.out, ⟨hi, hc, hj, hd, hs⟩, rfl, hOz⟩⟩
      have HR := hide hR
      clear hR hOz k0 k1 k2 k3 k4 k5 k6 f0 f1 f2 f3 f4 f5 f6 fz
      obtain ⟨f0, f1, f2, f3, f4, f5, f6⟩ := hPz.cells
      exact bodyPost_ret (v := .tuple #[.agg #[.int .i64 (kk : Int), .int .u16 (i : Int), .int .u32 (c : Int), .int .u16 (j : Int), .int .u32 (d : Int), .int .u64 (s : Int), .slice A2 n2 q2], .int .i64 0]) (by simp [results, Try.results16, go_sem, f0, f1, f2, f3, f4, f5, f6]) rfl HR.out
theorem decode_any (A : Option Addr) (n q : Nat) (l : List UInt8) (w : World) (hA : Bs w w.heap.size A n l) (hn : n ≤ q) (hq : q ≤ maxLen) (hn5 : n ≤ 70368744177664) :
    Calls Try.prog 16 #[.slice A n q] w (DecodeP w l) := by
  have hlen := hA.len
  by_cases h1 : n < 12
  · exact decode_a A n q l w hA hn hq hn5 h1
  · have h12 : 12 ≤ l.length := by omega
    by_cases h2 : l.take 3 = [86, 83, 1]
    · by_cases h3 : numL ((l.drop 4).take 4) = l.length
      · by_cases h4 : numL (l.drop (l.length - 4)) = sumN (l.take (l.length - 4))
        · rcases h5 : fieldsF ((l.take (l.length - 4)).drop 8) with _ | ⟨i, c, j, d, s, r⟩
          · exact decode_e A n q l w hA hn hq hn5 h12 h2 h3 h4 h5
          · by_cases h6 : checkF ((l.getD 3 0).toNat : Int) i c j d r.length = 0
            · exact decode_g A n q l w hA hn hq hn5 h12 h2 h3 h4 h5 h6
            · exact decode_f A n q l w hA hn hq hn5 h12 h2 h3 h4 h5 h6
        · exact decode_d A n q l w hA hn hq hn5 h12 h2 h3 h4
      · exact decode_c A n q l w hA hn hq hn5 h12 h2 h3
    · exact decode_b A n q l w hA hn hq hn5 h12 h2
end Go.Proofs.Ytkhkihobbfecoaa
