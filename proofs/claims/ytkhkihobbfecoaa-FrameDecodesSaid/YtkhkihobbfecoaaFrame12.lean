/-
  Frames: the document's Decode: what is sealed.
-/
import Derived.Test.YtkhkihobbfecoaaFrame9
import Derived.Test.YtkhkihobbfecoaaFrame11
namespace Go.Proofs.Ytkhkihobbfecoaa
open Go.RowKit
set_option linter.unusedVariables false
set_option linter.unusedSimpArgs false

theorem pidG_none : pidG [] = (0, 0, 0, 2) := rfl
/-- The block b is just this process. -/
def PdAt (w : World) (b i k : Nat) : Prop := w.heap[b]? = some (.cells #[.int .u16 (i : Int), .int .u32 (k : Int)] 25)
section
variable {w w' : World} {b i k : Nat}
theorem PdAt.lt (h : PdAt w b i k) : b < w.heap.size := lt_of_heap h
theorem PdAt.cells (h : PdAt w b i k) : w.cell? ⟨b, 0, none⟩ = some (.int .u16 (i : Int)) ∧ w.cell? ⟨b, 1, none⟩ = some (.int .u32 (k : Int)) := by
  have hf : ∀ x, w.cell? ⟨b, x, none⟩ = (#[.int .u16 (i : Int), .int .u32 (k : Int)] : Array Value)[x]? := by
    intro x
    unfold PdAt at h
    simp [World.cell?, h]
  exact ⟨hf 0, hf 1⟩
theorem PdAt.new (w : World) (i k : Nat) : PdAt (w.alloc (.cells #[.int .u16 (i : Int), .int .u32 (k : Int)] 25)) w.heap.size i k := heap_alloc_new w _
theorem PdAt.alloc (h : PdAt w b i k) (o : Obj) : PdAt (w.alloc o) b i k := (Below.heap_alloc w o b h.lt).trans h
theorem PdAt.later (h : PdAt w b i k) (hb : Below w.heap.size w w') : PdAt w' b i k := (hb.block b h.lt).trans h
end
set_option maxRecDepth 100000 in
set_option maxHeartbeats 1000000 in
theorem rdecode_e (A : Option Addr) (n q : Nat) (l : List UInt8) (w : World) (hA : Bs w w.heap.size A n l) (hn : n ≤ q) (hq : q ≤ maxLen) (hn5 : n ≤ 70368744177664) (h12 : 12 ≤ l.length) (h2 : l.take 3 = [86, 83, 1]) (h3 : numL ((l.drop 4).take 4) = l.length) (h4 : numL (l.drop (l.length - 4)) = sumN (l.take (l.length - 4))) :
    Calls Try.prog 17 #[.slice A n q] w (DecodeP w l) := by
  have hlen := hA.len
  have hb0 : Below w.heap.size w ((w.alloc (.cells #[.int .i64 (0 : Int), .int .u16 (0 : Int), .int .u32 (0 : Int), .int .u16 (0 : Int), .int .u32 (0 : Int), .int .u64 (0 : Int), .slice none 0 0] 29)).alloc (.cells #[.int .i64 (0 : Int), .int .u16 (0 : Int), .int .u32 (0 : Int), .int .u16 (0 : Int), .int .u32 (0 : Int), .int .u64 (0 : Int), .slice none 0 0] 29)) := ((Below.refl _ _).alloc (Nat.le_refl _) _).alloc (by simp) _
  have hA1 := (hA.below hb0).more hb0.size
  have hP0 : PkAt ((w.alloc (.cells #[.int .i64 (0 : Int), .int .u16 (0 : Int), .int .u32 (0 : Int), .int .u16 (0 : Int), .int .u32 (0 : Int), .int .u64 (0 : Int), .slice none 0 0] 29)).alloc (.cells #[.int .i64 (0 : Int), .int .u16 (0 : Int), .int .u32 (0 : Int), .int .u16 (0 : Int), .int .u32 (0 : Int), .int .u64 (0 : Int), .slice none 0 0] 29)) w.heap.size 0 0 0 0 0 0 none 0 0 := (PkAt.new w).alloc _
  have hZ0 : PkAt ((w.alloc (.cells #[.int .i64 (0 : Int), .int .u16 (0 : Int), .int .u32 (0 : Int), .int .u16 (0 : Int), .int .u32 (0 : Int), .int .u64 (0 : Int), .slice none 0 0] 29)).alloc (.cells #[.int .i64 (0 : Int), .int .u16 (0 : Int), .int .u32 (0 : Int), .int .u16 (0 : Int), .int .u32 (0 : Int), .int .u64 (0 : Int), .slice none 0 0] 29)) (w.heap.size + 1) 0 0 0 0 0 0 none 0 0 := by
    have := PkAt.new (k := 0) (i := 0) (c := 0) (j := 0) (d := 0) (s := 0) (A := none) (n := 0) (q := 0) (w.alloc (.cells #[.int .i64 (0 : Int), .int .u16 (0 : Int), .int .u32 (0 : Int), .int .u16 (0 : Int), .int .u32 (0 : Int), .int .u64 (0 : Int), .slice none 0 0] 29))
    simpa using this
  have hE5 := fun h5 => decE_5 h12 h2 h3 h4 h5
  have hE6 := fun (r : List UInt8) (i c j d s : Nat) h5 => decE_6 (r := r) (i := i) (c := c) (j := j) (d := d) (s := s) h12 h2 h3 h4 h5
  have hI := fun (r : List UInt8) (i c j d s : Nat) h5 h6 => (⟨h12, h2, rfl, h3, h4, h5, h6⟩ : IsP l (l.getD 3 0).toNat i c j d s r)
  have h12n : ¬ n < 12 := by omega
  have t1 : ((n : Int) < 12) = False := by simp; omega
  obtain ⟨ad, rfl, hbl, hcell⟩ := hA1.2 (by omega)
  obtain ⟨x0, x1, x2, x3, tl, rfl⟩ : ∃ x0 x1 x2 x3 tl, l = x0 :: x1 :: x2 :: x3 :: tl := by
    match l, (show 4 ≤ l.length by omega) with
    | x0 :: x1 :: x2 :: x3 :: tl, _ => exact ⟨x0, x1, x2, x3, tl, rfl⟩
  have c0 : ((w.alloc (.cells #[.int .i64 (0 : Int), .int .u16 (0 : Int), .int .u32 (0 : Int), .int .u16 (0 : Int), .int .u32 (0 : Int), .int .u64 (0 : Int), .slice none 0 0] 29)).alloc (.cells #[.int .i64 (0 : Int), .int .u16 (0 : Int), .int .u32 (0 : Int), .int .u16 (0 : Int), .int .u32 (0 : Int), .int .u64 (0 : Int), .slice none 0 0] 29)).cell? ad = some (.int .u8 (x0.toNat : Int)) := hcell 0 x0 rfl
  have c1 : ((w.alloc (.cells #[.int .i64 (0 : Int), .int .u16 (0 : Int), .int .u32 (0 : Int), .int .u16 (0 : Int), .int .u32 (0 : Int), .int .u64 (0 : Int), .slice none 0 0] 29)).alloc (.cells #[.int .i64 (0 : Int), .int .u16 (0 : Int), .int .u32 (0 : Int), .int .u16 (0 : Int), .int .u32 (0 : Int), .int .u64 (0 : Int), .slice none 0 0] 29)).cell? ⟨ad.block, ad.off + 1, none⟩ = some (.int .u8 (x1.toNat : Int)) := hcell 1 x1 rfl
  have c2 : ((w.alloc (.cells #[.int .i64 (0 : Int), .int .u16 (0 : Int), .int .u32 (0 : Int), .int .u16 (0 : Int), .int .u32 (0 : Int), .int .u64 (0 : Int), .slice none 0 0] 29)).alloc (.cells #[.int .i64 (0 : Int), .int .u16 (0 : Int), .int .u32 (0 : Int), .int .u16 (0 : Int), .int .u32 (0 : Int), .int .u64 (0 : Int), .slice none 0 0] 29)).cell? ⟨ad.block, ad.off + 2, none⟩ = some (.int .u8 (x2.toNat : Int)) := hcell 2 x2 rfl
  have cn := fun W (h : Bs W W.heap.size (some ad) n (x0 :: x1 :: x2 :: x3 :: tl)) => number_any (some ⟨ad.block, ad.off + 4, none⟩) 4 (q - 4) (((x0 :: x1 :: x2 :: x3 :: tl).drop 4).take 4) W.heap.size W (by
    have h' := (h.cut (k := 4) (by omega) hn).take (k := 4) (by omega)
    rw [if_neg (by omega)] at h'
    exact h') (by decide)
  have h2' : [x0, x1, x2] = [86, 83, 1] := h2
  have hA1' := hA1
  have hbz := hA1'.2
  simp only [List.cons.injEq, and_true] at h2'
  obtain ⟨e0, e1, e2⟩ := h2'
  have c0' : ((w.alloc (.cells #[.int .i64 (0 : Int), .int .u16 (0 : Int), .int .u32 (0 : Int), .int .u16 (0 : Int), .int .u32 (0 : Int), .int .u64 (0 : Int), .slice none 0 0] 29)).alloc (.cells #[.int .i64 (0 : Int), .int .u16 (0 : Int), .int .u32 (0 : Int), .int .u16 (0 : Int), .int .u32 (0 : Int), .int .u64 (0 : Int), .slice none 0 0] 29)).cell? ad = some (.int .u8 86) := by rw [c0, e0]; rfl
  have c1' : ((w.alloc (.cells #[.int .i64 (0 : Int), .int .u16 (0 : Int), .int .u32 (0 : Int), .int .u16 (0 : Int), .int .u32 (0 : Int), .int .u64 (0 : Int), .slice none 0 0] 29)).alloc (.cells #[.int .i64 (0 : Int), .int .u16 (0 : Int), .int .u32 (0 : Int), .int .u16 (0 : Int), .int .u32 (0 : Int), .int .u64 (0 : Int), .slice none 0 0] 29)).cell? ⟨ad.block, ad.off + 1, none⟩ = some (.int .u8 83) := by rw [c1, e1]; rfl
  have c2' : ((w.alloc (.cells #[.int .i64 (0 : Int), .int .u16 (0 : Int), .int .u32 (0 : Int), .int .u16 (0 : Int), .int .u32 (0 : Int), .int .u64 (0 : Int), .slice none 0 0] 29)).alloc (.cells #[.int .i64 (0 : Int), .int .u16 (0 : Int), .int .u32 (0 : Int), .int .u16 (0 : Int), .int .u32 (0 : Int), .int .u64 (0 : Int), .slice none 0 0] 29)).cell? ⟨ad.block, ad.off + 2, none⟩ = some (.int .u8 1) := by rw [c2, e2]; rfl
  have c3 : ((w.alloc (.cells #[.int .i64 (0 : Int), .int .u16 (0 : Int), .int .u32 (0 : Int), .int .u16 (0 : Int), .int .u32 (0 : Int), .int .u64 (0 : Int), .slice none 0 0] 29)).alloc (.cells #[.int .i64 (0 : Int), .int .u16 (0 : Int), .int .u32 (0 : Int), .int .u16 (0 : Int), .int .u32 (0 : Int), .int .u64 (0 : Int), .slice none 0 0] 29)).cell? ⟨ad.block, ad.off + 3, none⟩ = some (.int .u8 (x3.toNat : Int)) := hcell 3 x3 rfl
  obtain ⟨sz, hsz⟩ : ∃ sz, sz = numL (((x0 :: x1 :: x2 :: x3 :: tl).drop 4).take 4) := ⟨_, rfl⟩
  obtain ⟨kk, hkk⟩ : ∃ kk, kk = x3.toNat := ⟨_, rfl⟩
  have hkke : ((x0 :: x1 :: x2 :: x3 :: tl).getD 3 0).toNat = kk := hkk.symm
  have hk8 := x3.toNat_lt
  rw [← hsz] at cn
  rw [← hkk] at c3 hk8
  have wn : IntKind.u64.wrap (n : Int) = (n : Int) := by rw [IntKind.wrap_u64]; omega
  clear e0 e1 e2 c0 c1 c2 hbz hA1' hkk
  generalize hl : x0 :: x1 :: x2 :: x3 :: tl = l at *
  clear hcell hl x0 x1 x2 x3 tl
  rw [hkke] at hE6 hI
  rw [← hsz, hlen] at h3
  subst h3
  obtain ⟨m, hm⟩ : ∃ m, sz = m + 4 := ⟨sz - 4, by omega⟩
  have hm4 : l.length - 4 = m := by omega
  rw [hm4] at h4
  have co := ropen_yes (some ad) m sz q l _ _ hA1 (Nat.le_refl _) hm hn hn5 h4
  have hm8 : 8 ≤ m := by omega
  have hmb : m ≤ 70368744177660 := by omega
  rw [hm4] at hE5 hE6 hI
  have hX : ((l.take m).drop 8).length = m - 8 := by rw [List.length_drop, List.length_take]; omega
  obtain ⟨X, hXe⟩ : ∃ X, X = (l.take m).drop 8 := ⟨_, rfl⟩
  rw [← hXe] at hE5 hE6 hI hX
  have HM := hide hm
  have HE5 := hide hE5
  have HE6 := hide hE6
  have HI := hide hI
  have HX := hide hXe
  have HXL := hide hX
  clear hE5 hE6 hI hXe hX hlen h2 h12 h4 hm4 hm hkke hsz
  go_enter Try.func17, Try.ntmps17
  go_wp2_with fail
  refine (cn _ hA1).mono ?_
  rintro e w1 ⟨rfl, rfl⟩
  clear cn
  go_wp2_with fail
  refine co.mono ?_
  rintro e w1 ⟨A1, c1, rfl, hO1, hb1⟩
  have hcap := hO1.cap
  have hmax := hO1.room
  have k3 : w1.cell? ⟨ad.block, ad.off + 3, none⟩ = some (.int .u8 (kk : Int)) := (hb1.cell (p := ⟨ad.block, ad.off + 3, none⟩) hbl).trans c3
  have hK : PkAt (w1.alloc (.cells #[.int .i64 (kk : Int), .int .u16 (0 : Int), .int .u32 (0 : Int), .int .u16 (0 : Int), .int .u32 (0 : Int), .int .u64 (0 : Int), .slice none 0 0] 29)) w1.heap.size kk 0 0 0 0 0 none 0 0 := PkAt.new w1
  have hP := (hP0.later hb1).alloc (.cells #[.int .i64 ((kk : Int) : Int), .int .u16 (0 : Int), .int .u32 (0 : Int), .int .u16 (0 : Int), .int .u32 (0 : Int), .int .u64 (0 : Int), .slice none 0 0] 29)
  have hZ := (hZ0.later hb1).alloc (.cells #[.int .i64 ((kk : Int) : Int), .int .u16 (0 : Int), .int .u32 (0 : Int), .int .u16 (0 : Int), .int .u32 (0 : Int), .int .u64 (0 : Int), .slice none 0 0] 29)
  have hS := hO1.bs.alloc (Nat.le_refl _) (.cells #[.int .i64 ((kk : Int) : Int), .int .u16 (0 : Int), .int .u32 (0 : Int), .int .u16 (0 : Int), .int .u32 (0 : Int), .int .u64 (0 : Int), .slice none 0 0] 29)
  have l01 := (hZ0.later hb1).lt
  have hx := (hb0.trans (hb1.mono hb0.size)).alloc (hb0.trans (hb1.mono hb0.size)).size (.cells #[.int .i64 ((kk : Int) : Int), .int .u16 (0 : Int), .int .u32 (0 : Int), .int .u16 (0 : Int), .int .u32 (0 : Int), .int .u64 (0 : Int), .slice none 0 0] 29)
  have hbs := hb0.size
  have hlt := hb1.size
  clear hP0 hZ0 hb0 hO1 hb1 hA1 co c0' c1' c2' c3
  obtain ⟨i, a, u, t, h1⟩ : ∃ x1 x2 x3 x4, pidG X = (x1, x2, x3, x4) := ⟨_, _, _, _, rfl⟩
  have r1 := pidG_bds X
  rw [h1] at r1
  simp only at r1
  obtain ⟨hi, ha, hu, -⟩ := r1
  by_cases hc8 : c1 = 8
  · obtain rfl : m = 8 := by omega
    subst hc8
    have hX0 : X = [] := List.eq_nil_of_length_eq_zero HXL.out
    have ht : t ≠ 0 := by
      intro e
      rw [hX0, pidG_none] at h1
      simp only [Prod.mk.injEq] at h1
      omega
    have HE := hide (HE5.out (fieldsF_1 h1 ht))
    have cg := fun W => rgpid_any A1 0 0 X W.heap.size W ⟨HXL.out, fun h => absurd h (by omega)⟩ (Nat.le_refl _) (Nat.le_refl _) (by decide)
    unfold GetsP at cg
    rw [h1] at cg
    simp only at cg
    clear hX0 HE5 HE6 HI HX HXL
    go_wp2_with fail
    generalize (w1.alloc (.cells #[.int .i64 (kk : Int), .int .u16 (0 : Int), .int .u32 (0 : Int), .int .u16 (0 : Int), .int .u32 (0 : Int), .int .u64 (0 : Int), .slice none 0 0] 29)) = v1 at hK hP hZ hS hx ⊢
    refine (cg v1).mono ?_
    rintro e w2 ⟨rfl, hb2⟩
    replace hP := hP.later hb2
    replace hZ := hZ.later hb2
    replace hx := hx.trans (hb2.mono hx.size)
    have t2 : ((t : Int) != 0) = true := by simp; omega
    clear hb2 hK hS cg hmb hmax hcap hm8 hbs hlt hbl k3 hA
    obtain ⟨f0, f1, f2, f3, f4, f5, f6⟩ := hP.cells
    obtain ⟨z0, z1, z2, z3, z4, z5, z6⟩ := hZ.cells
    have fz := hP.frozen
    have hlt0 := hP.lt
    have hlt1 := hZ.lt
    have hxy := below_put hx (Nat.le_refl _) 0 0 0 0 0 0 none 0 0
    have hPy := hP.put 0 0 0 0 0 0 none 0 0
    have hxz := hxy.alloc hxy.size (.cells #[.int .u16 (i : Int), .int .u32 (a : Int)] 25)
    have hPz := hPy.alloc (.cells #[.int .u16 (i : Int), .int .u32 (a : Int)] 25)
    clear hxy hPy hP hZ hx
    go_wp2
    generalize ((((((((w2.setCell ⟨w.heap.size, 0, none⟩ (.int .i64 (0 : Int))).setCell ⟨w.heap.size, 1, none⟩ (.int .u16 (0 : Int))).setCell ⟨w.heap.size, 2, none⟩ (.int .u32 (0 : Int))).setCell ⟨w.heap.size, 3, none⟩ (.int .u16 (0 : Int))).setCell ⟨w.heap.size, 4, none⟩ (.int .u32 (0 : Int))).setCell ⟨w.heap.size, 5, none⟩ (.int .u64 (0 : Int))).setCell ⟨w.heap.size, 6, none⟩ (.slice none 0 0)).alloc (.cells #[.int .u16 (i : Int), .int .u32 (a : Int)] 25)) = W at hPz hxz ⊢
    have HR := hide (⟨hxz, .inl ⟨by rw [HE.out]; decide, by rw [HE.out]; rfl⟩⟩ : DecodeP w l (.returned (.tuple #[.agg #[.int .i64 (0 : Int), .int .u16 (0 : Int), .int .u32 (0 : Int), .int .u16 (0 : Int), .int .u32 (0 : Int), .int .u64 (0 : Int), .slice none 0 0], .int .i64 5])) W)
    clear f0 f1 f2 f3 f4 f5 f6 fz
    obtain ⟨f0, f1, f2, f3, f4, f5, f6⟩ := hPz.cells
    exact bodyPost_ret (v := .tuple #[.agg #[.int .i64 (0 : Int), .int .u16 (0 : Int), .int .u32 (0 : Int), .int .u16 (0 : Int), .int .u32 (0 : Int), .int .u64 (0 : Int), .slice none 0 0], .int .i64 5]) (by simp [results, Try.results17, go_sem, f0, f1, f2, f3, f4, f5, f6]) rfl HR.out
  · have h8c : 8 < c1 := by omega
    have hB := hS.cut hm8 hcap
    rw [if_neg hc8, ← HX.out] at hB
    have cg := rgpid_any _ (m - 8) (c1 - 8) X _ _ hB (by first | exact Nat.le_of_lt hK.lt | simp) (by omega) (by unfold maxLen at *; omega)
    unfold GetsP at cg
    rw [h1] at cg
    simp only at cg
    go_wp2_with fail
    generalize (w1.alloc (.cells #[.int .i64 (kk : Int), .int .u16 (0 : Int), .int .u32 (0 : Int), .int .u16 (0 : Int), .int .u32 (0 : Int), .int .u64 (0 : Int), .slice none 0 0] 29)) = v1 at hK hP hZ hS hx hB cg ⊢
    refine cg.mono ?_
    rintro e w2 ⟨rfl, hb2⟩
    replace hP := hP.later hb2
    replace hZ := hZ.later hb2
    replace hS := hS.below (hb2.mono (Nat.le_of_lt hK.lt))
    replace hK := hK.later hb2
    have l12 := hK.lt
    replace hx := hx.trans (hb2.mono hx.size)
    clear hb2 cg hB
    by_cases ht : t = 0
    · subst ht
      have hN := PdAt.new w2 i a
      replace hP := hP.alloc (.cells #[.int .u16 (i : Int), .int .u32 (a : Int)] 25)
      replace hZ := hZ.alloc (.cells #[.int .u16 (i : Int), .int .u32 (a : Int)] 25)
      replace hS := hS.alloc (Nat.le_of_lt hK.lt) (.cells #[.int .u16 (i : Int), .int .u32 (a : Int)] 25)
      replace hK := hK.alloc (.cells #[.int .u16 (i : Int), .int .u32 (a : Int)] 25)
      replace hx := hx.alloc hx.size (.cells #[.int .u16 (i : Int), .int .u32 (a : Int)] 25)
      obtain ⟨X1, hX1⟩ : ∃ X1, X1 = X.drop u := ⟨_, rfl⟩
      obtain ⟨j, b, v, t', h2⟩ : ∃ x1 x2 x3 x4, pidG X1 = (x1, x2, x3, x4) := ⟨_, _, _, _, rfl⟩
      have r2 := pidG_bds X1
      rw [h2] at r2
      simp only at r2
      obtain ⟨hj, hb, hv, -⟩ := r2
      obtain ⟨o1, ho1⟩ : ∃ o1, o1 = 8 + u := ⟨_, rfl⟩
      have hXL := HXL.out
      have hX1L : X1.length = m - o1 := by rw [hX1, List.length_drop]; omega
      have hX1e : X1 = (l.take m).drop o1 := by rw [hX1, HX.out, List.drop_drop, ho1]
      have ho1m : o1 ≤ m := by omega
      have a1 : (8 : Int) + (u : Int) = (o1 : Int) := by omega
      have HE2 := hide (fun ht' : t' ≠ 0 => HE5.out (fieldsF_2 h1 (by rw [← hX1]; exact h2) ht'))
      have HX1 := hide hX1
      have HX1L := hide hX1L
      have HX1e := hide hX1e
      have HO1 := hide ho1
      have H1 := hide h1
      clear hXL hX1 hX1L hX1e ho1 h1 h8c hc8 hu
      by_cases hc9 : c1 = o1
      · obtain rfl : m = o1 := by omega
        subst hc9
        have hX0 : X1 = [] := List.eq_nil_of_length_eq_zero (by rw [HX1L.out]; omega)
        have ht' : t' ≠ 0 := by
          intro e
          rw [hX0, pidG_none] at h2
          simp only [Prod.mk.injEq] at h2
          omega
        have HE := hide (HE2.out ht')
        have cg := fun W => rgpid_any A1 0 0 X1 W.heap.size W ⟨by rw [hX0]; rfl, fun h => absurd h (by omega)⟩ (Nat.le_refl _) (Nat.le_refl _) (by decide)
        unfold GetsP at cg
        rw [h2] at cg
        simp only at cg
        clear hX0 HE5 HE6 HI HX HXL HE2 HX1 HX1L HX1e H1
        go_wp2_with fail
        generalize (w2.alloc (.cells #[.int .u16 (i : Int), .int .u32 (a : Int)] 25)) = v2 at hK hP hZ hS hx hN ⊢
        refine (cg v2).mono ?_
        rintro e w3 ⟨rfl, hb2⟩
        replace hP := hP.later hb2
        replace hZ := hZ.later hb2
        replace hx := hx.trans (hb2.mono hx.size)
        have t2 : ((t' : Int) != 0) = true := by simp; omega
        clear hb2 hK hS hN cg hmb hmax hcap hm8 hbs hlt hbl k3 hA
        obtain ⟨f0, f1, f2, f3, f4, f5, f6⟩ := hP.cells
        obtain ⟨z0, z1, z2, z3, z4, z5, z6⟩ := hZ.cells
        have fz := hP.frozen
        have hlt0 := hP.lt
        have hlt1 := hZ.lt
        have hxy := below_put hx (Nat.le_refl _) 0 0 0 0 0 0 none 0 0
        have hPy := hP.put 0 0 0 0 0 0 none 0 0
        have hxz := hxy.alloc hxy.size (.cells #[.int .u16 (j : Int), .int .u32 (b : Int)] 25)
        have hPz := hPy.alloc (.cells #[.int .u16 (j : Int), .int .u32 (b : Int)] 25)
        clear hxy hPy hP hZ hx
        go_wp2
        generalize ((((((((w3.setCell ⟨w.heap.size, 0, none⟩ (.int .i64 (0 : Int))).setCell ⟨w.heap.size, 1, none⟩ (.int .u16 (0 : Int))).setCell ⟨w.heap.size, 2, none⟩ (.int .u32 (0 : Int))).setCell ⟨w.heap.size, 3, none⟩ (.int .u16 (0 : Int))).setCell ⟨w.heap.size, 4, none⟩ (.int .u32 (0 : Int))).setCell ⟨w.heap.size, 5, none⟩ (.int .u64 (0 : Int))).setCell ⟨w.heap.size, 6, none⟩ (.slice none 0 0)).alloc (.cells #[.int .u16 (j : Int), .int .u32 (b : Int)] 25)) = W at hPz hxz ⊢
        have HR := hide (⟨hxz, .inl ⟨by rw [HE.out]; decide, by rw [HE.out]; rfl⟩⟩ : DecodeP w l (.returned (.tuple #[.agg #[.int .i64 (0 : Int), .int .u16 (0 : Int), .int .u32 (0 : Int), .int .u16 (0 : Int), .int .u32 (0 : Int), .int .u64 (0 : Int), .slice none 0 0], .int .i64 5])) W)
        clear f0 f1 f2 f3 f4 f5 f6 fz
        obtain ⟨f0, f1, f2, f3, f4, f5, f6⟩ := hPz.cells
        exact bodyPost_ret (v := .tuple #[.agg #[.int .i64 (0 : Int), .int .u16 (0 : Int), .int .u32 (0 : Int), .int .u16 (0 : Int), .int .u32 (0 : Int), .int .u64 (0 : Int), .slice none 0 0], .int .i64 5]) (by simp [results, Try.results17, go_sem, f0, f1, f2, f3, f4, f5, f6]) rfl HR.out
      · have h9c : o1 < c1 := by omega
        have hB := hS.cut ho1m hcap
        rw [if_neg hc9, ← HX1e.out] at hB
        have cg := rgpid_any _ (m - o1) (c1 - o1) X1 _ _ hB (Nat.le_of_lt hK.lt) (by omega) (by unfold maxLen at *; omega)
        unfold GetsP at cg
        rw [h2] at cg
        simp only at cg
        go_wp2_with fail
        generalize (w2.alloc (.cells #[.int .u16 (i : Int), .int .u32 (a : Int)] 25)) = v2 at hK hP hZ hS hx hN hB cg ⊢
        refine cg.mono ?_
        rintro e w3 ⟨rfl, hb2⟩
        replace hP := hP.later hb2
        replace hZ := hZ.later hb2
        replace hS := hS.below (hb2.mono (Nat.le_of_lt hK.lt))
        replace hK := hK.later hb2
        replace hN := hN.later hb2
        have l23 := hN.lt
        replace hx := hx.trans (hb2.mono hx.size)
        clear hb2 cg hB
        by_cases ht' : t' = 0
        · subst ht'
          have hM := PdAt.new w3 j b
          replace hP := hP.alloc (.cells #[.int .u16 (j : Int), .int .u32 (b : Int)] 25)
          replace hZ := hZ.alloc (.cells #[.int .u16 (j : Int), .int .u32 (b : Int)] 25)
          replace hS := hS.alloc (Nat.le_of_lt hK.lt) (.cells #[.int .u16 (j : Int), .int .u32 (b : Int)] 25)
          replace hK := hK.alloc (.cells #[.int .u16 (j : Int), .int .u32 (b : Int)] 25)
          replace hN := hN.alloc (.cells #[.int .u16 (j : Int), .int .u32 (b : Int)] 25)
          replace hx := hx.alloc hx.size (.cells #[.int .u16 (j : Int), .int .u32 (b : Int)] 25)
          obtain ⟨X2, hX2⟩ : ∃ X2, X2 = X1.drop v := ⟨_, rfl⟩
          obtain ⟨s, y, t'', h3⟩ : ∃ x1 x2 x3, getF X2 = (x1, x2, x3) := ⟨_, _, _, rfl⟩
          have r3 := getF_bds X2
          rw [h3] at r3
          simp only at r3
          obtain ⟨hs, hy, -, -⟩ := r3
          obtain ⟨o2, ho2⟩ : ∃ o2, o2 = o1 + v := ⟨_, rfl⟩
          have hX1L := HX1L.out
          have hX2L : X2.length = m - o2 := by rw [hX2, List.length_drop]; omega
          have hX2e : X2 = (l.take m).drop o2 := by rw [hX2, HX1e.out, List.drop_drop, ho2]
          have ho2m : o2 ≤ m := by omega
          have a2 : (o1 : Int) + (v : Int) = (o2 : Int) := by omega
          have h2x : pidG (X.drop u) = (j, b, v, 0) := by rw [← HX1.out]; exact h2
          have h3x : getF ((X.drop u).drop v) = (s, y, t'') := by rw [← HX1.out, ← hX2]; exact h3
          have HE3 := hide (fun ht : t'' ≠ 0 => HE5.out (fieldsF_3 H1.out h2x h3x ht))
          have HG := hide (fun ht : t'' = 0 => fieldsF_4 H1.out h2x (ht ▸ h3x))
          have HX2 := hide hX2
          have HX2L := hide hX2L
          have HX2e := hide hX2e
          clear hX1L hX2 hX2L hX2e ho2 h2x h3x h2 h9c hc9 hv
          by_cases hc10 : c1 = o2
          · obtain rfl : m = o2 := by omega
            subst hc10
            have hX0 : X2 = [] := List.eq_nil_of_length_eq_zero (by rw [HX2L.out]; omega)
            have ht : t'' ≠ 0 := by
              intro e
              rw [hX0, getF_none] at h3
              simp only [Prod.mk.injEq] at h3
              omega
            have HE := hide (HE3.out ht)
            have cg := fun W => rgetShort_any A1 0 0 X2 0 W ⟨by rw [hX0]; rfl, fun h => absurd h (by omega)⟩ (by decide)
            rw [h3] at cg
            simp only at cg
            clear hX0
            go_wp2_with fail
            generalize (w3.alloc (.cells #[.int .u16 (j : Int), .int .u32 (b : Int)] 25)) = v3 at hK hP hZ hS hx hN hM ⊢
            refine (cg v3).mono ?_
            rintro e w4 ⟨rfl, rfl⟩
            have t2 : ((t'' : Int) != 0) = true := by simp; omega
            clear hK hS hN hM cg HE5 HE6 HI HX HXL HE2 HE3 HG HX1 HX1L HX1e HX2 HX2L HX2e H1 hmb hmax hcap hm8 hbs hlt hbl k3 hA
            obtain ⟨f0, f1, f2, f3, f4, f5, f6⟩ := hP.cells
            obtain ⟨z0, z1, z2, z3, z4, z5, z6⟩ := hZ.cells
            have fz := hP.frozen
            have hlt0 := hP.lt
            have hlt1 := hZ.lt
            have hxy := below_put hx (Nat.le_refl _) 0 0 0 0 0 0 none 0 0
            have hPy := hP.put 0 0 0 0 0 0 none 0 0
            have hxz := hxy
            have hPz := hPy
            clear hxy hPy hP hZ hx
            go_wp2
            generalize (((((((v3.setCell ⟨w.heap.size, 0, none⟩ (.int .i64 (0 : Int))).setCell ⟨w.heap.size, 1, none⟩ (.int .u16 (0 : Int))).setCell ⟨w.heap.size, 2, none⟩ (.int .u32 (0 : Int))).setCell ⟨w.heap.size, 3, none⟩ (.int .u16 (0 : Int))).setCell ⟨w.heap.size, 4, none⟩ (.int .u32 (0 : Int))).setCell ⟨w.heap.size, 5, none⟩ (.int .u64 (0 : Int))).setCell ⟨w.heap.size, 6, none⟩ (.slice none 0 0)) = W at hPz hxz ⊢
            have HR := hide (⟨hxz, .inl ⟨by rw [HE.out]; decide, by rw [HE.out]; rfl⟩⟩ : DecodeP w l (.returned (.tuple #[.agg #[.int .i64 (0 : Int), .int .u16 (0 : Int), .int .u32 (0 : Int), .int .u16 (0 : Int), .int .u32 (0 : Int), .int .u64 (0 : Int), .slice none 0 0], .int .i64 5])) W)
            clear f0 f1 f2 f3 f4 f5 f6 fz
            obtain ⟨f0, f1, f2, f3, f4, f5, f6⟩ := hPz.cells
            exact bodyPost_ret (v := .tuple #[.agg #[.int .i64 (0 : Int), .int .u16 (0 : Int), .int .u32 (0 : Int), .int .u16 (0 : Int), .int .u32 (0 : Int), .int .u64 (0 : Int), .slice none 0 0], .int .i64 5]) (by simp [results, Try.results17, go_sem, f0, f1, f2, f3, f4, f5, f6]) rfl HR.out
          · have h10c : o2 < c1 := by omega
            have hB := hS.cut ho2m hcap
            rw [if_neg hc10, ← HX2e.out] at hB
            have cg := rgetShort_any _ (m - o2) (c1 - o2) X2 _ _ hB (by unfold maxLen at *; omega)
            rw [h3] at cg
            simp only at cg
            go_wp2_with fail
            generalize (w3.alloc (.cells #[.int .u16 (j : Int), .int .u32 (b : Int)] 25)) = v3 at hK hP hZ hS hx hN hM hB cg ⊢
            refine cg.mono ?_
            rintro e w4 ⟨rfl, rfl⟩
            clear cg hB
            have l3v := hM.lt
            by_cases ht : t'' = 0
            · subst ht
              obtain ⟨o3, ho3⟩ : ∃ o3, o3 = o2 + y := ⟨_, rfl⟩
              have hX2L := HX2L.out
              obtain ⟨r, hr⟩ : ∃ r, r = X2.drop y := ⟨_, rfl⟩
              have hrL : r.length = m - o3 := by rw [hr, List.length_drop]; omega
              have hre : r = (l.take m).drop o3 := by rw [hr, HX2e.out, List.drop_drop, ho3]
              have ho3m : o3 ≤ m := by omega
              have a3 : (o2 : Int) + (y : Int) = (o3 : Int) := by omega
              have hG : fieldsF X = some (i, a, j, b, s, r) := by rw [hr, HX2.out, HX1.out]; exact HG.out rfl
              have hE := HE6.out r i a j b s hG
              have hI := HI.out r i a j b s hG
              obtain ⟨n3, hn3⟩ : ∃ n3, n3 = r.length := ⟨_, rfl⟩
              rw [← hn3] at hrL hE hI
              obtain ⟨f, hfe⟩ : ∃ f, f = checkF (kk : Int) i a j b n3 := ⟨_, rfl⟩
              rw [← hfe] at hE hI
              have hn3m : n3 ≤ 140737488355328 := by omega
              have hn3b : 0 + n3 ≤ 140737488355328 := by omega
              have hk256 : kk < 256 := by simpa using hk8
              have hB0 := hS.cut ho3m hcap
              rw [← hre] at hB0
              have nb0 : w.heap.size ≠ w1.heap.size := by omega
              have nb1 : w.heap.size + 1 ≠ w1.heap.size := by omega
              have lb2 : w.heap.size ≤ w1.heap.size := by omega
              have hPs := (((((hP.setOld (p := ⟨w1.heap.size, 1, none⟩) nb0 (.int .u16 (i : Int))).setOld (p := ⟨w1.heap.size, 2, none⟩) nb0 (.int .u32 (a : Int))).setOld (p := ⟨w1.heap.size, 3, none⟩) nb0 (.int .u16 (j : Int))).setOld (p := ⟨w1.heap.size, 4, none⟩) nb0 (.int .u32 (b : Int))).setOld (p := ⟨w1.heap.size, 5, none⟩) nb0 (.int .u64 (s : Int)))
              have hZs := (((((hZ.setOld (p := ⟨w1.heap.size, 1, none⟩) nb1 (.int .u16 (i : Int))).setOld (p := ⟨w1.heap.size, 2, none⟩) nb1 (.int .u32 (a : Int))).setOld (p := ⟨w1.heap.size, 3, none⟩) nb1 (.int .u16 (j : Int))).setOld (p := ⟨w1.heap.size, 4, none⟩) nb1 (.int .u32 (b : Int))).setOld (p := ⟨w1.heap.size, 5, none⟩) nb1 (.int .u64 (s : Int)))
              have hKs := ((hK.set1 i a).set3 j b).set5 s
              have hxs := (((((hx.setCell (p := ⟨w1.heap.size, 1, none⟩) lb2 (.int .u16 (i : Int))).setCell (p := ⟨w1.heap.size, 2, none⟩) lb2 (.int .u32 (a : Int))).setCell (p := ⟨w1.heap.size, 3, none⟩) lb2 (.int .u16 (j : Int))).setCell (p := ⟨w1.heap.size, 4, none⟩) lb2 (.int .u32 (b : Int))).setCell (p := ⟨w1.heap.size, 5, none⟩) lb2 (.int .u64 (s : Int)))
              have hB3 : Bs (((((v3.setCell ⟨w1.heap.size, 1, none⟩ (.int .u16 (i : Int))).setCell ⟨w1.heap.size, 2, none⟩ (.int .u32 (a : Int))).setCell ⟨w1.heap.size, 3, none⟩ (.int .u16 (j : Int))).setCell ⟨w1.heap.size, 4, none⟩ (.int .u32 (b : Int))).setCell ⟨w1.heap.size, 5, none⟩ (.int .u64 (s : Int))) w1.heap.size (if c1 = o3 then A1 else A1.map (·.add o3)) (m - o3) r := (((((hB0.setCell (p := ⟨w1.heap.size, 1, none⟩) (Nat.le_refl _) (.int .u16 (i : Int))).setCell (p := ⟨w1.heap.size, 2, none⟩) (Nat.le_refl _) (.int .u32 (a : Int))).setCell (p := ⟨w1.heap.size, 3, none⟩) (Nat.le_refl _) (.int .u16 (j : Int))).setCell (p := ⟨w1.heap.size, 4, none⟩) (Nat.le_refl _) (.int .u32 (b : Int))).setCell (p := ⟨w1.heap.size, 5, none⟩) (Nat.le_refl _) (.int .u64 (s : Int)))
              obtain ⟨Vs, hVs⟩ : ∃ Vs, Vs = (((((v3.setCell ⟨w1.heap.size, 1, none⟩ (.int .u16 (i : Int))).setCell ⟨w1.heap.size, 2, none⟩ (.int .u32 (a : Int))).setCell ⟨w1.heap.size, 3, none⟩ (.int .u16 (j : Int))).setCell ⟨w1.heap.size, 4, none⟩ (.int .u32 (b : Int))).setCell ⟨w1.heap.size, 5, none⟩ (.int .u64 (s : Int))) := ⟨_, rfl⟩
              rw [← hVs] at hPs hZs hKs hxs hB3
              have hsz : Vs.heap.size = v3.heap.size := by rw [hVs]; simp
              have hOl : OwnB (Vs.alloc (.cells #[] 5)) v3.heap.size (.slice (some ⟨v3.heap.size, 0, none⟩) 0 0) 0 [] := by
                rw [← hsz]
                exact own_lit Vs Vs.heap.size 0 [] _ rfl rfl (by decide) (Nat.le_refl _)
              have hbl0 : Below v3.heap.size Vs (Vs.alloc (.cells #[] 5)) := (Below.refl _ _).alloc (by rw [hsz]; exact Nat.le_refl _) _
              have hbs0 : v3.heap.size ≤ (Vs.alloc (.cells #[] 5)).heap.size := by rw [← hsz]; simp
              have lKs := hKs.lt
              have l0s := hPs.lt
              obtain ⟨g0, g1, g2, g3, g4, g5, g6⟩ := hK.cells
              obtain ⟨i0, i1⟩ := hN.cells
              obtain ⟨j0, j1⟩ := hM.cells
              have gz := hK.frozen
              have HEf := hide hE
              have HIf := hide hI
              have HN3 := hide hn3
              have HFE := hide hfe
              have HV := hide hVs
              have HSZ := hide hsz
              clear hE hI hfe hG hVs hsz hB0 hX2L hr ho3 hre HE5 HE6 HI HX HXL HE2 HE3 HG HX1 HX1L HX1e HX2 HX2L HX2e H1 HO1 hP hZ hK hN hM hS hx h3 hbs hlt hbl hA hn hn5 hy k3
              by_cases hc11 : c1 = o3
              · obtain rfl : m = o3 := by omega
                obtain rfl : n3 = 0 := by omega
                subst hc11
                simp only [if_true, Nat.sub_self] at hB3
                clear hrL hn3
                go_wp2_with (at_builtin; rw [← HV.out]; refine wp_bytes_own _ rfl (.tmp 106) (.tmp 115) rfl v3.heap.size 0 _ [] rfl hOl _ A1 0 0 r rfl (hB3.alloc (Nat.le_of_lt lKs) _) hn3b v3.heap.size Vs hbl0 (Nat.le_refl _) hbs0 ?_)
                intro A5 c5 w5 hO5 hb5 hsz5
                rw [← HSZ.out] at hO5 hb5
                try simp only [Nat.zero_add, List.nil_append] at hO5 ⊢
                have hP5 := hPs.later hb5
                have hZ5 := hZs.later hb5
                have hK5 := hKs.later hb5
                have hx5 := hxs.trans (hb5.mono hxs.size)
                have hP6 := hP5.setOld (p := ⟨w1.heap.size, 6, none⟩) nb0 (.slice A5 0 c5)
                have hZ6 := hZ5.setOld (p := ⟨w1.heap.size, 6, none⟩) nb1 (.slice A5 0 c5)
                have hK6 := hK5.set6 A5 0 c5
                have hx6 := hx5.setCell (p := ⟨w1.heap.size, 6, none⟩) lb2 (.slice A5 0 c5)
                have hO6 := hO5.setOld (p := ⟨w1.heap.size, 6, none⟩) lKs (.slice A5 0 c5)
                have cc := fun W => rcheck_any (kk : Int) i a j b s A5 0 c5 W (by omega) (by omega) hi ha hj hb hn3m
                rw [← HFE.out] at cc
                have lK5 := hK5.lt
                obtain ⟨e0, e1, e2, e3, e4, e5, e6⟩ := hK5.cells
                have ez := hK5.frozen
                clear hB3 hOl hbl0 hbs0 hPs hZs hKs hxs hb5 hsz5 hP5 hZ5 hK5 hx5 hO5
                go_wp2_with fail
                generalize (w5.setCell ⟨w1.heap.size, 6, none⟩ (.slice A5 0 c5)) = v6 at hP6 hZ6 hK6 hx6 hO6 ⊢
                refine (cc v6).mono ?_
                rintro e w7 ⟨rfl, hb7⟩
                have hP := hP6.later hb7
                have hZ := hZ6.later hb7
                have hK := hK6.later hb7
                have hO := hO6.later hb7
                have hx := hx6.trans (hb7.mono hx6.size)
                clear cc hb7 hP6 hZ6 hK6 hx6 hO6 e0 e1 e2 e3 e4 e5 e6 ez lK5
                by_cases hf0 : f = 0
                · subst hf0
                  have HE := hide (HEf.out.trans (if_neg (by simp)))
                  have HIP := hide (HIf.out rfl)
                  obtain ⟨f0, f1, f2, f3, f4, f5, f6⟩ := hP.cells
                  obtain ⟨k0, k1, k2, k3, k4, k5, k6⟩ := hK.cells
                  have fz := hP.frozen
                  have hlt0 := hP.lt
                  have hlt1 := hK.lt
                  have hPz := hP.put kk i a j b s A5 0 c5
                  have hxz := below_put hx (Nat.le_refl _) kk i a j b s A5 0 c5
                  have hOz := (hO.put l0s kk i a j b s A5 0 c5).mono (base' := w.heap.size) (Nat.le_of_lt l0s)
                  clear hP hZ hK hO hx
                  go_wp2
                  generalize (((((((w7.setCell ⟨w.heap.size, 0, none⟩ (.int .i64 (kk : Int))).setCell ⟨w.heap.size, 1, none⟩ (.int .u16 (i : Int))).setCell ⟨w.heap.size, 2, none⟩ (.int .u32 (a : Int))).setCell ⟨w.heap.size, 3, none⟩ (.int .u16 (j : Int))).setCell ⟨w.heap.size, 4, none⟩ (.int .u32 (b : Int))).setCell ⟨w.heap.size, 5, none⟩ (.int .u64 (s : Int))).setCell ⟨w.heap.size, 6, none⟩ (.slice A5 0 c5)) = W at hPz hxz hOz ⊢
                  have hR : DecodeP w l (.returned (.tuple #[.agg #[.int .i64 (kk : Int), .int .u16 (i : Int), .int .u32 (a : Int), .int .u16 (j : Int), .int .u32 (b : Int), .int .u64 (s : Int), .slice A5 0 c5], .int .i64 0])) W := by
                    have e := HN3.out
                    exact ⟨hxz, .inr ⟨kk, i, a, j, b, s, r, A5, c5, HE.out, HIP.out, ⟨hi, ha, hj, hb, hs⟩, by rw [← e], by rw [← e]; exact hOz⟩⟩
                  have HR := hide hR
                  clear hR hOz k0 k1 k2 k3 k4 k5 k6 f0 f1 f2 f3 f4 f5 f6 fz
                  obtain ⟨f0, f1, f2, f3, f4, f5, f6⟩ := hPz.cells
                  exact bodyPost_ret (v := .tuple #[.agg #[.int .i64 (kk : Int), .int .u16 (i : Int), .int .u32 (a : Int), .int .u16 (j : Int), .int .u32 (b : Int), .int .u64 (s : Int), .slice A5 0 c5], .int .i64 0]) (by simp [results, Try.results17, go_sem, f0, f1, f2, f3, f4, f5, f6]) rfl HR.out
                · have HE := hide (HEf.out.trans (if_pos hf0))
                  have t2 : ((f : Int) != 0) = true := by simp; omega
                  clear hK hO hf0
                  obtain ⟨f0, f1, f2, f3, f4, f5, f6⟩ := hP.cells
                  obtain ⟨z0, z1, z2, z3, z4, z5, z6⟩ := hZ.cells
                  have fz := hP.frozen
                  have hlt0 := hP.lt
                  have hlt1 := hZ.lt
                  have hxy := below_put hx (Nat.le_refl _) 0 0 0 0 0 0 none 0 0
                  have hPy := hP.put 0 0 0 0 0 0 none 0 0
                  have hxz := hxy
                  have hPz := hPy
                  clear hxy hPy hP hZ hx
                  go_wp2
                  generalize (((((((w7.setCell ⟨w.heap.size, 0, none⟩ (.int .i64 (0 : Int))).setCell ⟨w.heap.size, 1, none⟩ (.int .u16 (0 : Int))).setCell ⟨w.heap.size, 2, none⟩ (.int .u32 (0 : Int))).setCell ⟨w.heap.size, 3, none⟩ (.int .u16 (0 : Int))).setCell ⟨w.heap.size, 4, none⟩ (.int .u32 (0 : Int))).setCell ⟨w.heap.size, 5, none⟩ (.int .u64 (0 : Int))).setCell ⟨w.heap.size, 6, none⟩ (.slice none 0 0)) = W at hPz hxz ⊢
                  have HR := hide (⟨hxz, .inl ⟨by rw [HE.out]; decide, by rw [HE.out]; rfl⟩⟩ : DecodeP w l (.returned (.tuple #[.agg #[.int .i64 (0 : Int), .int .u16 (0 : Int), .int .u32 (0 : Int), .int .u16 (0 : Int), .int .u32 (0 : Int), .int .u64 (0 : Int), .slice none 0 0], .int .i64 5])) W)
                  clear f0 f1 f2 f3 f4 f5 f6 fz
                  obtain ⟨f0, f1, f2, f3, f4, f5, f6⟩ := hPz.cells
                  exact bodyPost_ret (v := .tuple #[.agg #[.int .i64 (0 : Int), .int .u16 (0 : Int), .int .u32 (0 : Int), .int .u16 (0 : Int), .int .u32 (0 : Int), .int .u64 (0 : Int), .slice none 0 0], .int .i64 5]) (by simp [results, Try.results17, go_sem, f0, f1, f2, f3, f4, f5, f6]) rfl HR.out
              · have h11c : o3 < c1 := by omega
                rw [if_neg hc11] at hB3
                have HRL := hide (hrL : n3 = m - o3)
                rw [← hrL] at hB3
                clear hrL hn3
                go_wp2_with (at_builtin; rw [← HV.out]; rw [← HRL.out]; refine wp_bytes_own _ rfl (.tmp 106) (.tmp 115) rfl v3.heap.size 0 _ [] rfl hOl _ (Option.map (fun x => x.add o3) A1) n3 (c1 - o3) r rfl (hB3.alloc (Nat.le_of_lt lKs) _) hn3b v3.heap.size Vs hbl0 (Nat.le_refl _) hbs0 ?_)
                intro A5 c5 w5 hO5 hb5 hsz5
                rw [← HSZ.out] at hO5 hb5
                try simp only [Nat.zero_add, List.nil_append] at hO5 ⊢
                have hP5 := hPs.later hb5
                have hZ5 := hZs.later hb5
                have hK5 := hKs.later hb5
                have hx5 := hxs.trans (hb5.mono hxs.size)
                have hP6 := hP5.setOld (p := ⟨w1.heap.size, 6, none⟩) nb0 (.slice A5 n3 c5)
                have hZ6 := hZ5.setOld (p := ⟨w1.heap.size, 6, none⟩) nb1 (.slice A5 n3 c5)
                have hK6 := hK5.set6 A5 n3 c5
                have hx6 := hx5.setCell (p := ⟨w1.heap.size, 6, none⟩) lb2 (.slice A5 n3 c5)
                have hO6 := hO5.setOld (p := ⟨w1.heap.size, 6, none⟩) lKs (.slice A5 n3 c5)
                have cc := fun W => rcheck_any (kk : Int) i a j b s A5 n3 c5 W (by omega) (by omega) hi ha hj hb hn3m
                rw [← HFE.out] at cc
                have lK5 := hK5.lt
                obtain ⟨e0, e1, e2, e3, e4, e5, e6⟩ := hK5.cells
                have ez := hK5.frozen
                clear hB3 hOl hbl0 hbs0 hPs hZs hKs hxs hb5 hsz5 hP5 hZ5 hK5 hx5 hO5
                go_wp2_with fail
                generalize (w5.setCell ⟨w1.heap.size, 6, none⟩ (.slice A5 n3 c5)) = v6 at hP6 hZ6 hK6 hx6 hO6 ⊢
                refine (cc v6).mono ?_
                rintro e w7 ⟨rfl, hb7⟩
                have hP := hP6.later hb7
                have hZ := hZ6.later hb7
                have hK := hK6.later hb7
                have hO := hO6.later hb7
                have hx := hx6.trans (hb7.mono hx6.size)
                clear cc hb7 hP6 hZ6 hK6 hx6 hO6 e0 e1 e2 e3 e4 e5 e6 ez lK5
                by_cases hf0 : f = 0
                · subst hf0
                  have HE := hide (HEf.out.trans (if_neg (by simp)))
                  have HIP := hide (HIf.out rfl)
                  obtain ⟨f0, f1, f2, f3, f4, f5, f6⟩ := hP.cells
                  obtain ⟨k0, k1, k2, k3, k4, k5, k6⟩ := hK.cells
                  have fz := hP.frozen
                  have hlt0 := hP.lt
                  have hlt1 := hK.lt
                  have hPz := hP.put kk i a j b s A5 n3 c5
                  have hxz := below_put hx (Nat.le_refl _) kk i a j b s A5 n3 c5
                  have hOz := (hO.put l0s kk i a j b s A5 n3 c5).mono (base' := w.heap.size) (Nat.le_of_lt l0s)
                  clear hP hZ hK hO hx
                  go_wp2
                  generalize (((((((w7.setCell ⟨w.heap.size, 0, none⟩ (.int .i64 (kk : Int))).setCell ⟨w.heap.size, 1, none⟩ (.int .u16 (i : Int))).setCell ⟨w.heap.size, 2, none⟩ (.int .u32 (a : Int))).setCell ⟨w.heap.size, 3, none⟩ (.int .u16 (j : Int))).setCell ⟨w.heap.size, 4, none⟩ (.int .u32 (b : Int))).setCell ⟨w.heap.size, 5, none⟩ (.int .u64 (s : Int))).setCell ⟨w.heap.size, 6, none⟩ (.slice A5 n3 c5)) = W at hPz hxz hOz ⊢
                  have hR : DecodeP w l (.returned (.tuple #[.agg #[.int .i64 (kk : Int), .int .u16 (i : Int), .int .u32 (a : Int), .int .u16 (j : Int), .int .u32 (b : Int), .int .u64 (s : Int), .slice A5 n3 c5], .int .i64 0])) W := by
                    have e := HN3.out
                    subst e
                    exact ⟨hxz, .inr ⟨kk, i, a, j, b, s, r, A5, c5, HE.out, HIP.out, ⟨hi, ha, hj, hb, hs⟩, rfl, hOz⟩⟩
                  have HR := hide hR
                  clear hR hOz k0 k1 k2 k3 k4 k5 k6 f0 f1 f2 f3 f4 f5 f6 fz
                  obtain ⟨f0, f1, f2, f3, f4, f5, f6⟩ := hPz.cells
                  exact bodyPost_ret (v := .tuple #[.agg #[.int .i64 (kk : Int), .int .u16 (i : Int), .int .u32 (a : Int), .int .u16 (j : Int), .int .u32 (b : Int), .int .u64 (s : Int), .slice A5 n3 c5], .int .i64 0]) (by simp [results, Try.results17, go_sem, f0, f1, f2, f3, f4, f5, f6]) rfl HR.out
                · have HE := hide (HEf.out.trans (if_pos hf0))
                  have t2 : ((f : Int) != 0) = true := by simp; omega
                  clear hK hO hf0
                  obtain ⟨f0, f1, f2, f3, f4, f5, f6⟩ := hP.cells
                  obtain ⟨z0, z1, z2, z3, z4, z5, z6⟩ := hZ.cells
                  have fz := hP.frozen
                  have hlt0 := hP.lt
                  have hlt1 := hZ.lt
                  have hxy := below_put hx (Nat.le_refl _) 0 0 0 0 0 0 none 0 0
                  have hPy := hP.put 0 0 0 0 0 0 none 0 0
                  have hxz := hxy
                  have hPz := hPy
                  clear hxy hPy hP hZ hx
                  go_wp2
                  generalize (((((((w7.setCell ⟨w.heap.size, 0, none⟩ (.int .i64 (0 : Int))).setCell ⟨w.heap.size, 1, none⟩ (.int .u16 (0 : Int))).setCell ⟨w.heap.size, 2, none⟩ (.int .u32 (0 : Int))).setCell ⟨w.heap.size, 3, none⟩ (.int .u16 (0 : Int))).setCell ⟨w.heap.size, 4, none⟩ (.int .u32 (0 : Int))).setCell ⟨w.heap.size, 5, none⟩ (.int .u64 (0 : Int))).setCell ⟨w.heap.size, 6, none⟩ (.slice none 0 0)) = W at hPz hxz ⊢
                  have HR := hide (⟨hxz, .inl ⟨by rw [HE.out]; decide, by rw [HE.out]; rfl⟩⟩ : DecodeP w l (.returned (.tuple #[.agg #[.int .i64 (0 : Int), .int .u16 (0 : Int), .int .u32 (0 : Int), .int .u16 (0 : Int), .int .u32 (0 : Int), .int .u64 (0 : Int), .slice none 0 0], .int .i64 5])) W)
                  clear f0 f1 f2 f3 f4 f5 f6 fz
                  obtain ⟨f0, f1, f2, f3, f4, f5, f6⟩ := hPz.cells
                  exact bodyPost_ret (v := .tuple #[.agg #[.int .i64 (0 : Int), .int .u16 (0 : Int), .int .u32 (0 : Int), .int .u16 (0 : Int), .int .u32 (0 : Int), .int .u64 (0 : Int), .slice none 0 0], .int .i64 5]) (by simp [results, Try.results17, go_sem, f0, f1, f2, f3, f4, f5, f6]) rfl HR.out
            · have HE := hide (HE3.out ht)
              have t2 : ((t'' : Int) != 0) = true := by simp; omega
              clear hK hS hN hM HE5 HE6 HI HX HXL HE2 HE3 HG HX1 HX1L HX1e HX2 HX2L HX2e H1 hmb hmax hcap hm8 hbs hlt hbl k3 hA ho1m ho2m
              obtain ⟨f0, f1, f2, f3, f4, f5, f6⟩ := hP.cells
              obtain ⟨z0, z1, z2, z3, z4, z5, z6⟩ := hZ.cells
              have fz := hP.frozen
              have hlt0 := hP.lt
              have hlt1 := hZ.lt
              have hxy := below_put hx (Nat.le_refl _) 0 0 0 0 0 0 none 0 0
              have hPy := hP.put 0 0 0 0 0 0 none 0 0
              have hxz := hxy
              have hPz := hPy
              clear hxy hPy hP hZ hx
              go_wp2
              generalize (((((((v3.setCell ⟨w.heap.size, 0, none⟩ (.int .i64 (0 : Int))).setCell ⟨w.heap.size, 1, none⟩ (.int .u16 (0 : Int))).setCell ⟨w.heap.size, 2, none⟩ (.int .u32 (0 : Int))).setCell ⟨w.heap.size, 3, none⟩ (.int .u16 (0 : Int))).setCell ⟨w.heap.size, 4, none⟩ (.int .u32 (0 : Int))).setCell ⟨w.heap.size, 5, none⟩ (.int .u64 (0 : Int))).setCell ⟨w.heap.size, 6, none⟩ (.slice none 0 0)) = W at hPz hxz ⊢
              have HR := hide (⟨hxz, .inl ⟨by rw [HE.out]; decide, by rw [HE.out]; rfl⟩⟩ : DecodeP w l (.returned (.tuple #[.agg #[.int .i64 (0 : Int), .int .u16 (0 : Int), .int .u32 (0 : Int), .int .u16 (0 : Int), .int .u32 (0 : Int), .int .u64 (0 : Int), .slice none 0 0], .int .i64 5])) W)
              clear f0 f1 f2 f3 f4 f5 f6 fz
              obtain ⟨f0, f1, f2, f3, f4, f5, f6⟩ := hPz.cells
              exact bodyPost_ret (v := .tuple #[.agg #[.int .i64 (0 : Int), .int .u16 (0 : Int), .int .u32 (0 : Int), .int .u16 (0 : Int), .int .u32 (0 : Int), .int .u64 (0 : Int), .slice none 0 0], .int .i64 5]) (by simp [results, Try.results17, go_sem, f0, f1, f2, f3, f4, f5, f6]) rfl HR.out
        · have HE := hide (HE2.out ht')
          have t2 : ((t' : Int) != 0) = true := by simp; omega
          clear hK hS hN HE5 HE6 HI HX HXL HE2 HX1 HX1L HX1e H1 hmb hmax hcap hm8 hbs hlt hbl k3 hA ho1m
          obtain ⟨f0, f1, f2, f3, f4, f5, f6⟩ := hP.cells
          obtain ⟨z0, z1, z2, z3, z4, z5, z6⟩ := hZ.cells
          have fz := hP.frozen
          have hlt0 := hP.lt
          have hlt1 := hZ.lt
          have hxy := below_put hx (Nat.le_refl _) 0 0 0 0 0 0 none 0 0
          have hPy := hP.put 0 0 0 0 0 0 none 0 0
          have hxz := hxy.alloc hxy.size (.cells #[.int .u16 (j : Int), .int .u32 (b : Int)] 25)
          have hPz := hPy.alloc (.cells #[.int .u16 (j : Int), .int .u32 (b : Int)] 25)
          clear hxy hPy hP hZ hx
          go_wp2
          generalize ((((((((w3.setCell ⟨w.heap.size, 0, none⟩ (.int .i64 (0 : Int))).setCell ⟨w.heap.size, 1, none⟩ (.int .u16 (0 : Int))).setCell ⟨w.heap.size, 2, none⟩ (.int .u32 (0 : Int))).setCell ⟨w.heap.size, 3, none⟩ (.int .u16 (0 : Int))).setCell ⟨w.heap.size, 4, none⟩ (.int .u32 (0 : Int))).setCell ⟨w.heap.size, 5, none⟩ (.int .u64 (0 : Int))).setCell ⟨w.heap.size, 6, none⟩ (.slice none 0 0)).alloc (.cells #[.int .u16 (j : Int), .int .u32 (b : Int)] 25)) = W at hPz hxz ⊢
          have HR := hide (⟨hxz, .inl ⟨by rw [HE.out]; decide, by rw [HE.out]; rfl⟩⟩ : DecodeP w l (.returned (.tuple #[.agg #[.int .i64 (0 : Int), .int .u16 (0 : Int), .int .u32 (0 : Int), .int .u16 (0 : Int), .int .u32 (0 : Int), .int .u64 (0 : Int), .slice none 0 0], .int .i64 5])) W)
          clear f0 f1 f2 f3 f4 f5 f6 fz
          obtain ⟨f0, f1, f2, f3, f4, f5, f6⟩ := hPz.cells
          exact bodyPost_ret (v := .tuple #[.agg #[.int .i64 (0 : Int), .int .u16 (0 : Int), .int .u32 (0 : Int), .int .u16 (0 : Int), .int .u32 (0 : Int), .int .u64 (0 : Int), .slice none 0 0], .int .i64 5]) (by simp [results, Try.results17, go_sem, f0, f1, f2, f3, f4, f5, f6]) rfl HR.out
    · have HE := hide (HE5.out (fieldsF_1 h1 ht))
      have t2 : ((t : Int) != 0) = true := by simp; omega
      clear hK hS HE5 HE6 HI HX HXL h1 hmb hmax hcap hm8 hbs hlt hbl k3 hA
      obtain ⟨f0, f1, f2, f3, f4, f5, f6⟩ := hP.cells
      obtain ⟨z0, z1, z2, z3, z4, z5, z6⟩ := hZ.cells
      have fz := hP.frozen
      have hlt0 := hP.lt
      have hlt1 := hZ.lt
      have hxy := below_put hx (Nat.le_refl _) 0 0 0 0 0 0 none 0 0
      have hPy := hP.put 0 0 0 0 0 0 none 0 0
      have hxz := hxy.alloc hxy.size (.cells #[.int .u16 (i : Int), .int .u32 (a : Int)] 25)
      have hPz := hPy.alloc (.cells #[.int .u16 (i : Int), .int .u32 (a : Int)] 25)
      clear hxy hPy hP hZ hx
      go_wp2
      generalize ((((((((w2.setCell ⟨w.heap.size, 0, none⟩ (.int .i64 (0 : Int))).setCell ⟨w.heap.size, 1, none⟩ (.int .u16 (0 : Int))).setCell ⟨w.heap.size, 2, none⟩ (.int .u32 (0 : Int))).setCell ⟨w.heap.size, 3, none⟩ (.int .u16 (0 : Int))).setCell ⟨w.heap.size, 4, none⟩ (.int .u32 (0 : Int))).setCell ⟨w.heap.size, 5, none⟩ (.int .u64 (0 : Int))).setCell ⟨w.heap.size, 6, none⟩ (.slice none 0 0)).alloc (.cells #[.int .u16 (i : Int), .int .u32 (a : Int)] 25)) = W at hPz hxz ⊢
      have HR := hide (⟨hxz, .inl ⟨by rw [HE.out]; decide, by rw [HE.out]; rfl⟩⟩ : DecodeP w l (.returned (.tuple #[.agg #[.int .i64 (0 : Int), .int .u16 (0 : Int), .int .u32 (0 : Int), .int .u16 (0 : Int), .int .u32 (0 : Int), .int .u64 (0 : Int), .slice none 0 0], .int .i64 5])) W)
      clear f0 f1 f2 f3 f4 f5 f6 fz
      obtain ⟨f0, f1, f2, f3, f4, f5, f6⟩ := hPz.cells
      exact bodyPost_ret (v := .tuple #[.agg #[.int .i64 (0 : Int), .int .u16 (0 : Int), .int .u32 (0 : Int), .int .u16 (0 : Int), .int .u32 (0 : Int), .int .u64 (0 : Int), .slice none 0 0], .int .i64 5]) (by simp [results, Try.results17, go_sem, f0, f1, f2, f3, f4, f5, f6]) rfl HR.out
theorem rdecode_any (A : Option Addr) (n q : Nat) (l : List UInt8) (w : World) (hA : Bs w w.heap.size A n l) (hn : n ≤ q) (hq : q ≤ maxLen) (hn5 : n ≤ 70368744177664) :
    Calls Try.prog 17 #[.slice A n q] w (DecodeP w l) := by
  have hlen := hA.len
  by_cases h1 : n < 12
  · exact rdecode_a A n q l w hA hn hq hn5 h1
  · have h12 : 12 ≤ l.length := by omega
    by_cases h2 : l.take 3 = [86, 83, 1]
    · by_cases h3 : numL ((l.drop 4).take 4) = l.length
      · by_cases h4 : numL (l.drop (l.length - 4)) = sumN (l.take (l.length - 4))
        · exact rdecode_e A n q l w hA hn hq hn5 h12 h2 h3 h4
        · exact rdecode_d A n q l w hA hn hq hn5 h12 h2 h3 h4
      · exact rdecode_c A n q l w hA hn hq hn5 h12 h2 h3
    · exact rdecode_b A n q l w hA hn hq hn5 h12 h2
end Go.Proofs.Ytkhkihobbfecoaa
