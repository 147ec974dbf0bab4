/-
  Frames: the document's Decode: what is refused ahead of the fields.
-/
import Derived.Test.YtkhkihobbfecoaaFrame8
import Derived.Test.YtkhkihobbfecoaaFrame10
namespace Go.Proofs.Ytkhkihobbfecoaa
open Go.RowKit
set_option linter.unusedVariables false
set_option linter.unusedSimpArgs false

set_option maxRecDepth 100000 in
theorem rdecode_a (A : Option Addr) (n q : Nat) (l : List UInt8) (w : World) (hA : Bs w w.heap.size A n l) (hn : n ≤ q) (hq : q ≤ maxLen) (hn5 : n ≤ 70368744177664) (h1 : n < 12) :
    Calls Try.prog 17 #[.slice A n q] w (DecodeP w l) := by
  have hlen := hA.len
  have hb0 : Below w.heap.size w ((w.alloc (.cells #[.int .i64 (0 : Int), .int .u16 (0 : Int), .int .u32 (0 : Int), .int .u16 (0 : Int), .int .u32 (0 : Int), .int .u64 (0 : Int), .slice none 0 0] 29)).alloc (.cells #[.int .i64 (0 : Int), .int .u16 (0 : Int), .int .u32 (0 : Int), .int .u16 (0 : Int), .int .u32 (0 : Int), .int .u64 (0 : Int), .slice none 0 0] 29)) := ((Below.refl _ _).alloc (Nat.le_refl _) _).alloc (by simp) _
  have hA1 := (hA.below hb0).more hb0.size
  have hP0 : PkAt ((w.alloc (.cells #[.int .i64 (0 : Int), .int .u16 (0 : Int), .int .u32 (0 : Int), .int .u16 (0 : Int), .int .u32 (0 : Int), .int .u64 (0 : Int), .slice none 0 0] 29)).alloc (.cells #[.int .i64 (0 : Int), .int .u16 (0 : Int), .int .u32 (0 : Int), .int .u16 (0 : Int), .int .u32 (0 : Int), .int .u64 (0 : Int), .slice none 0 0] 29)) w.heap.size 0 0 0 0 0 0 none 0 0 := (PkAt.new w).alloc _
  have hZ0 : PkAt ((w.alloc (.cells #[.int .i64 (0 : Int), .int .u16 (0 : Int), .int .u32 (0 : Int), .int .u16 (0 : Int), .int .u32 (0 : Int), .int .u64 (0 : Int), .slice none 0 0] 29)).alloc (.cells #[.int .i64 (0 : Int), .int .u16 (0 : Int), .int .u32 (0 : Int), .int .u16 (0 : Int), .int .u32 (0 : Int), .int .u64 (0 : Int), .slice none 0 0] 29)) (w.heap.size + 1) 0 0 0 0 0 0 none 0 0 := by
    have := PkAt.new (k := 0) (i := 0) (c := 0) (j := 0) (d := 0) (s := 0) (A := none) (n := 0) (q := 0) (w.alloc (.cells #[.int .i64 (0 : Int), .int .u16 (0 : Int), .int .u32 (0 : Int), .int .u16 (0 : Int), .int .u32 (0 : Int), .int .u64 (0 : Int), .slice none 0 0] 29))
    simpa using this
  have hE := decE_1 (l := l) (by omega)
  have t1 : ((n : Int) < 12) = True := by simp; omega
  have HE := hide hE
  clear hE hlen
  go_enter Try.func17, Try.ntmps17
  go_wp2
  generalize ((w.alloc (.cells #[.int .i64 (0 : Int), .int .u16 (0 : Int), .int .u32 (0 : Int), .int .u16 (0 : Int), .int .u32 (0 : Int), .int .u64 (0 : Int), .slice none 0 0] 29)).alloc (.cells #[.int .i64 (0 : Int), .int .u16 (0 : Int), .int .u32 (0 : Int), .int .u16 (0 : Int), .int .u32 (0 : Int), .int .u64 (0 : Int), .slice none 0 0] 29)) = W at hP0 hb0 ⊢
  have HR := hide (⟨hb0, .inl ⟨by rw [HE.out]; decide, by rw [HE.out]; rfl⟩⟩ : DecodeP w l (.returned (.tuple #[.agg #[.int .i64 (0 : Int), .int .u16 (0 : Int), .int .u32 (0 : Int), .int .u16 (0 : Int), .int .u32 (0 : Int), .int .u64 (0 : Int), .slice none 0 0], .int .i64 2])) W)
  obtain ⟨f0, f1, f2, f3, f4, f5, f6⟩ := hP0.cells
  exact bodyPost_ret (v := .tuple #[.agg #[.int .i64 (0 : Int), .int .u16 (0 : Int), .int .u32 (0 : Int), .int .u16 (0 : Int), .int .u32 (0 : Int), .int .u64 (0 : Int), .slice none 0 0], .int .i64 2]) (by simp [results, Try.results17, go_sem, f0, f1, f2, f3, f4, f5, f6]) rfl HR.out
set_option maxRecDepth 100000 in
theorem rdecode_b (A : Option Addr) (n q : Nat) (l : List UInt8) (w : World) (hA : Bs w w.heap.size A n l) (hn : n ≤ q) (hq : q ≤ maxLen) (hn5 : n ≤ 70368744177664) (h12 : 12 ≤ l.length) (h2 : l.take 3 ≠ [86, 83, 1]) :
    Calls Try.prog 17 #[.slice A n q] w (DecodeP w l) := by
  have hlen := hA.len
  have hb0 : Below w.heap.size w ((w.alloc (.cells #[.int .i64 (0 : Int), .int .u16 (0 : Int), .int .u32 (0 : Int), .int .u16 (0 : Int), .int .u32 (0 : Int), .int .u64 (0 : Int), .slice none 0 0] 29)).alloc (.cells #[.int .i64 (0 : Int), .int .u16 (0 : Int), .int .u32 (0 : Int), .int .u16 (0 : Int), .int .u32 (0 : Int), .int .u64 (0 : Int), .slice none 0 0] 29)) := ((Below.refl _ _).alloc (Nat.le_refl _) _).alloc (by simp) _
  have hA1 := (hA.below hb0).more hb0.size
  have hP0 : PkAt ((w.alloc (.cells #[.int .i64 (0 : Int), .int .u16 (0 : Int), .int .u32 (0 : Int), .int .u16 (0 : Int), .int .u32 (0 : Int), .int .u64 (0 : Int), .slice none 0 0] 29)).alloc (.cells #[.int .i64 (0 : Int), .int .u16 (0 : Int), .int .u32 (0 : Int), .int .u16 (0 : Int), .int .u32 (0 : Int), .int .u64 (0 : Int), .slice none 0 0] 29)) w.heap.size 0 0 0 0 0 0 none 0 0 := (PkAt.new w).alloc _
  have hZ0 : PkAt ((w.alloc (.cells #[.int .i64 (0 : Int), .int .u16 (0 : Int), .int .u32 (0 : Int), .int .u16 (0 : Int), .int .u32 (0 : Int), .int .u64 (0 : Int), .slice none 0 0] 29)).alloc (.cells #[.int .i64 (0 : Int), .int .u16 (0 : Int), .int .u32 (0 : Int), .int .u16 (0 : Int), .int .u32 (0 : Int), .int .u64 (0 : Int), .slice none 0 0] 29)) (w.heap.size + 1) 0 0 0 0 0 0 none 0 0 := by
    have := PkAt.new (k := 0) (i := 0) (c := 0) (j := 0) (d := 0) (s := 0) (A := none) (n := 0) (q := 0) (w.alloc (.cells #[.int .i64 (0 : Int), .int .u16 (0 : Int), .int .u32 (0 : Int), .int .u16 (0 : Int), .int .u32 (0 : Int), .int .u64 (0 : Int), .slice none 0 0] 29))
    simpa using this
  have hE := decE_2 h12 h2
  have HE := hide hE
  have h12n : ¬ n < 12 := by omega
  have t1 : ((n : Int) < 12) = False := by simp; omega
  obtain ⟨ad, rfl, hbl, hcell⟩ := hA1.2 (by omega)
  obtain ⟨x0, x1, x2, x3, tl, rfl⟩ : ∃ x0 x1 x2 x3 tl, l = x0 :: x1 :: x2 :: x3 :: tl := by
    match l, (show 4 ≤ l.length by omega) with
    | x0 :: x1 :: x2 :: x3 :: tl, _ => exact ⟨x0, x1, x2, x3, tl, rfl⟩
  have c0 : ((w.alloc (.cells #[.int .i64 (0 : Int), .int .u16 (0 : Int), .int .u32 (0 : Int), .int .u16 (0 : Int), .int .u32 (0 : Int), .int .u64 (0 : Int), .slice none 0 0] 29)).alloc (.cells #[.int .i64 (0 : Int), .int .u16 (0 : Int), .int .u32 (0 : Int), .int .u16 (0 : Int), .int .u32 (0 : Int), .int .u64 (0 : Int), .slice none 0 0] 29)).cell? ad = some (.int .u8 (x0.toNat : Int)) := hcell 0 x0 rfl
  have c1 : ((w.alloc (.cells #[.int .i64 (0 : Int), .int .u16 (0 : Int), .int .u32 (0 : Int), .int .u16 (0 : Int), .int .u32 (0 : Int), .int .u64 (0 : Int), .slice none 0 0] 29)).alloc (.cells #[.int .i64 (0 : Int), .int .u16 (0 : Int), .int .u32 (0 : Int), .int .u16 (0 : Int), .int .u32 (0 : Int), .int .u64 (0 : Int), .slice none 0 0] 29)).cell? ⟨ad.block, ad.off + 1, none⟩ = some (.int .u8 (x1.toNat : Int)) := hcell 1 x1 rfl
  have c2 : ((w.alloc (.cells #[.int .i64 (0 : Int), .int .u16 (0 : Int), .int .u32 (0 : Int), .int .u16 (0 : Int), .int .u32 (0 : Int), .int .u64 (0 : Int), .slice none 0 0] 29)).alloc (.cells #[.int .i64 (0 : Int), .int .u16 (0 : Int), .int .u32 (0 : Int), .int .u16 (0 : Int), .int .u32 (0 : Int), .int .u64 (0 : Int), .slice none 0 0] 29)).cell? ⟨ad.block, ad.off + 2, none⟩ = some (.int .u8 (x2.toNat : Int)) := hcell 2 x2 rfl
  have h2' : [x0, x1, x2] ≠ [86, 83, 1] := h2
  clear hE hlen h2 hcell h12 hA hA1
  generalize x0 :: x1 :: x2 :: x3 :: tl = l at HE ⊢
  by_cases e0 : x0 = 86
  · subst e0
    by_cases e1 : x1 = 83
    · subst e1
      have e2 : x2 ≠ 1 := fun e => h2' (by rw [e])
      have d2 : ((x2.toNat : Int) != 1) = true := by
        simp only [bne_iff_ne, ne_eq]
        intro e
        exact e2 (UInt8.toNat_inj.1 (show x2.toNat = (1 : UInt8).toNat from by simpa using (show x2.toNat = 1 by omega)))
      have q0 : (86 : UInt8).toNat = 86 := rfl
      rw [q0] at c0
      clear q0
      have q1 : (83 : UInt8).toNat = 83 := rfl
      rw [q1] at c1
      clear q1
      generalize x2.toNat = y2 at *
      go_enter Try.func17, Try.ntmps17
      go_wp2
      generalize ((w.alloc (.cells #[.int .i64 (0 : Int), .int .u16 (0 : Int), .int .u32 (0 : Int), .int .u16 (0 : Int), .int .u32 (0 : Int), .int .u64 (0 : Int), .slice none 0 0] 29)).alloc (.cells #[.int .i64 (0 : Int), .int .u16 (0 : Int), .int .u32 (0 : Int), .int .u16 (0 : Int), .int .u32 (0 : Int), .int .u64 (0 : Int), .slice none 0 0] 29)) = W at hP0 hb0 ⊢
      have HR := hide (⟨hb0, .inl ⟨by rw [HE.out]; decide, by rw [HE.out]; rfl⟩⟩ : DecodeP w l (.returned (.tuple #[.agg #[.int .i64 (0 : Int), .int .u16 (0 : Int), .int .u32 (0 : Int), .int .u16 (0 : Int), .int .u32 (0 : Int), .int .u64 (0 : Int), .slice none 0 0], .int .i64 6])) W)
      obtain ⟨f0, f1, f2, f3, f4, f5, f6⟩ := hP0.cells
      exact bodyPost_ret (v := .tuple #[.agg #[.int .i64 (0 : Int), .int .u16 (0 : Int), .int .u32 (0 : Int), .int .u16 (0 : Int), .int .u32 (0 : Int), .int .u64 (0 : Int), .slice none 0 0], .int .i64 6]) (by simp [results, Try.results17, go_sem, f0, f1, f2, f3, f4, f5, f6]) rfl HR.out
    · have hne : True := trivial
      have d1 : ((x1.toNat : Int) != 83) = true := by
        simp only [bne_iff_ne, ne_eq]
        intro e
        exact e1 (UInt8.toNat_inj.1 (show x1.toNat = (83 : UInt8).toNat from by simpa using (show x1.toNat = 83 by omega)))
      have q0 : (86 : UInt8).toNat = 86 := rfl
      rw [q0] at c0
      clear q0
      generalize x1.toNat = y1 at *
      generalize x2.toNat = y2 at *
      go_enter Try.func17, Try.ntmps17
      go_wp2
      generalize ((w.alloc (.cells #[.int .i64 (0 : Int), .int .u16 (0 : Int), .int .u32 (0 : Int), .int .u16 (0 : Int), .int .u32 (0 : Int), .int .u64 (0 : Int), .slice none 0 0] 29)).alloc (.cells #[.int .i64 (0 : Int), .int .u16 (0 : Int), .int .u32 (0 : Int), .int .u16 (0 : Int), .int .u32 (0 : Int), .int .u64 (0 : Int), .slice none 0 0] 29)) = W at hP0 hb0 ⊢
      have HR := hide (⟨hb0, .inl ⟨by rw [HE.out]; decide, by rw [HE.out]; rfl⟩⟩ : DecodeP w l (.returned (.tuple #[.agg #[.int .i64 (0 : Int), .int .u16 (0 : Int), .int .u32 (0 : Int), .int .u16 (0 : Int), .int .u32 (0 : Int), .int .u64 (0 : Int), .slice none 0 0], .int .i64 6])) W)
      obtain ⟨f0, f1, f2, f3, f4, f5, f6⟩ := hP0.cells
      exact bodyPost_ret (v := .tuple #[.agg #[.int .i64 (0 : Int), .int .u16 (0 : Int), .int .u32 (0 : Int), .int .u16 (0 : Int), .int .u32 (0 : Int), .int .u64 (0 : Int), .slice none 0 0], .int .i64 6]) (by simp [results, Try.results17, go_sem, f0, f1, f2, f3, f4, f5, f6]) rfl HR.out
  · have hne : True := trivial
    have d0 : ((x0.toNat : Int) != 86) = true := by
      simp only [bne_iff_ne, ne_eq]
      intro e
      exact e0 (UInt8.toNat_inj.1 (show x0.toNat = (86 : UInt8).toNat from by simpa using (show x0.toNat = 86 by omega)))
    generalize x0.toNat = y0 at *
    generalize x1.toNat = y1 at *
    generalize x2.toNat = y2 at *
    go_enter Try.func17, Try.ntmps17
    go_wp2
    generalize ((w.alloc (.cells #[.int .i64 (0 : Int), .int .u16 (0 : Int), .int .u32 (0 : Int), .int .u16 (0 : Int), .int .u32 (0 : Int), .int .u64 (0 : Int), .slice none 0 0] 29)).alloc (.cells #[.int .i64 (0 : Int), .int .u16 (0 : Int), .int .u32 (0 : Int), .int .u16 (0 : Int), .int .u32 (0 : Int), .int .u64 (0 : Int), .slice none 0 0] 29)) = W at hP0 hb0 ⊢
    have HR := hide (⟨hb0, .inl ⟨by rw [HE.out]; decide, by rw [HE.out]; rfl⟩⟩ : DecodeP w l (.returned (.tuple #[.agg #[.int .i64 (0 : Int), .int .u16 (0 : Int), .int .u32 (0 : Int), .int .u16 (0 : Int), .int .u32 (0 : Int), .int .u64 (0 : Int), .slice none 0 0], .int .i64 6])) W)
    obtain ⟨f0, f1, f2, f3, f4, f5, f6⟩ := hP0.cells
    exact bodyPost_ret (v := .tuple #[.agg #[.int .i64 (0 : Int), .int .u16 (0 : Int), .int .u32 (0 : Int), .int .u16 (0 : Int), .int .u32 (0 : Int), .int .u64 (0 : Int), .slice none 0 0], .int .i64 6]) (by simp [results, Try.results17, go_sem, f0, f1, f2, f3, f4, f5, f6]) rfl HR.out
set_option maxRecDepth 100000 in
set_option maxHeartbeats 1000000 in
theorem rdecode_c (A : Option Addr) (n q : Nat) (l : List UInt8) (w : World) (hA : Bs w w.heap.size A n l) (hn : n ≤ q) (hq : q ≤ maxLen) (hn5 : n ≤ 70368744177664) (h12 : 12 ≤ l.length) (h2 : l.take 3 = [86, 83, 1]) (h3 : numL ((l.drop 4).take 4) ≠ l.length) :
    Calls Try.prog 17 #[.slice A n q] w (DecodeP w l) := by
  have hlen := hA.len
  have hb0 : Below w.heap.size w ((w.alloc (.cells #[.int .i64 (0 : Int), .int .u16 (0 : Int), .int .u32 (0 : Int), .int .u16 (0 : Int), .int .u32 (0 : Int), .int .u64 (0 : Int), .slice none 0 0] 29)).alloc (.cells #[.int .i64 (0 : Int), .int .u16 (0 : Int), .int .u32 (0 : Int), .int .u16 (0 : Int), .int .u32 (0 : Int), .int .u64 (0 : Int), .slice none 0 0] 29)) := ((Below.refl _ _).alloc (Nat.le_refl _) _).alloc (by simp) _
  have hA1 := (hA.below hb0).more hb0.size
  have hP0 : PkAt ((w.alloc (.cells #[.int .i64 (0 : Int), .int .u16 (0 : Int), .int .u32 (0 : Int), .int .u16 (0 : Int), .int .u32 (0 : Int), .int .u64 (0 : Int), .slice none 0 0] 29)).alloc (.cells #[.int .i64 (0 : Int), .int .u16 (0 : Int), .int .u32 (0 : Int), .int .u16 (0 : Int), .int .u32 (0 : Int), .int .u64 (0 : Int), .slice none 0 0] 29)) w.heap.size 0 0 0 0 0 0 none 0 0 := (PkAt.new w).alloc _
  have hZ0 : PkAt ((w.alloc (.cells #[.int .i64 (0 : Int), .int .u16 (0 : Int), .int .u32 (0 : Int), .int .u16 (0 : Int), .int .u32 (0 : Int), .int .u64 (0 : Int), .slice none 0 0] 29)).alloc (.cells #[.int .i64 (0 : Int), .int .u16 (0 : Int), .int .u32 (0 : Int), .int .u16 (0 : Int), .int .u32 (0 : Int), .int .u64 (0 : Int), .slice none 0 0] 29)) (w.heap.size + 1) 0 0 0 0 0 0 none 0 0 := by
    have := PkAt.new (k := 0) (i := 0) (c := 0) (j := 0) (d := 0) (s := 0) (A := none) (n := 0) (q := 0) (w.alloc (.cells #[.int .i64 (0 : Int), .int .u16 (0 : Int), .int .u32 (0 : Int), .int .u16 (0 : Int), .int .u32 (0 : Int), .int .u64 (0 : Int), .slice none 0 0] 29))
    simpa using this
  have hE := decE_3 h12 h2 h3
  have HE := hide hE
  have h12n : ¬ n < 12 := by omega
  have t1 : ((n : Int) < 12) = False := by simp; omega
  obtain ⟨ad, rfl, hbl, hcell⟩ := hA1.2 (by omega)
  obtain ⟨x0, x1, x2, x3, tl, rfl⟩ : ∃ x0 x1 x2 x3 tl, l = x0 :: x1 :: x2 :: x3 :: tl := by
    match l, (show 4 ≤ l.length by omega) with
    | x0 :: x1 :: x2 :: x3 :: tl, _ => exact ⟨x0, x1, x2, x3, tl, rfl⟩
  have c0 : ((w.alloc (.cells #[.int .i64 (0 : Int), .int .u16 (0 : Int), .int .u32 (0 : Int), .int .u16 (0 : Int), .int .u32 (0 : Int), .int .u64 (0 : Int), .slice none 0 0] 29)).alloc (.cells #[.int .i64 (0 : Int), .int .u16 (0 : Int), .int .u32 (0 : Int), .int .u16 (0 : Int), .int .u32 (0 : Int), .int .u64 (0 : Int), .slice none 0 0] 29)).cell? ad = some (.int .u8 (x0.toNat : Int)) := hcell 0 x0 rfl
  have c1 : ((w.alloc (.cells #[.int .i64 (0 : Int), .int .u16 (0 : Int), .int .u32 (0 : Int), .int .u16 (0 : Int), .int .u32 (0 : Int), .int .u64 (0 : Int), .slice none 0 0] 29)).alloc (.cells #[.int .i64 (0 : Int), .int .u16 (0 : Int), .int .u32 (0 : Int), .int .u16 (0 : Int), .int .u32 (0 : Int), .int .u64 (0 : Int), .slice none 0 0] 29)).cell? ⟨ad.block, ad.off + 1, none⟩ = some (.int .u8 (x1.toNat : Int)) := hcell 1 x1 rfl
  have c2 : ((w.alloc (.cells #[.int .i64 (0 : Int), .int .u16 (0 : Int), .int .u32 (0 : Int), .int .u16 (0 : Int), .int .u32 (0 : Int), .int .u64 (0 : Int), .slice none 0 0] 29)).alloc (.cells #[.int .i64 (0 : Int), .int .u16 (0 : Int), .int .u32 (0 : Int), .int .u16 (0 : Int), .int .u32 (0 : Int), .int .u64 (0 : Int), .slice none 0 0] 29)).cell? ⟨ad.block, ad.off + 2, none⟩ = some (.int .u8 (x2.toNat : Int)) := hcell 2 x2 rfl
  have cn := fun W (h : Bs W W.heap.size (some ad) n (x0 :: x1 :: x2 :: x3 :: tl)) => number_any (some ⟨ad.block, ad.off + 4, none⟩) 4 (q - 4) (((x0 :: x1 :: x2 :: x3 :: tl).drop 4).take 4) W.heap.size W (by
    have h' := (h.cut (k := 4) (by omega) hn).take (k := 4) (by omega)
    rw [if_neg (by omega)] at h'
    exact h') (by decide)
  have h2' : [x0, x1, x2] = [86, 83, 1] := h2
  have hA1' := hA1
  have hbz := hA1'.2
  simp only [List.cons.injEq, and_true] at h2'
  obtain ⟨e0, e1, e2⟩ := h2'
  have c0' : ((w.alloc (.cells #[.int .i64 (0 : Int), .int .u16 (0 : Int), .int .u32 (0 : Int), .int .u16 (0 : Int), .int .u32 (0 : Int), .int .u64 (0 : Int), .slice none 0 0] 29)).alloc (.cells #[.int .i64 (0 : Int), .int .u16 (0 : Int), .int .u32 (0 : Int), .int .u16 (0 : Int), .int .u32 (0 : Int), .int .u64 (0 : Int), .slice none 0 0] 29)).cell? ad = some (.int .u8 86) := by rw [c0, e0]; rfl
  have c1' : ((w.alloc (.cells #[.int .i64 (0 : Int), .int .u16 (0 : Int), .int .u32 (0 : Int), .int .u16 (0 : Int), .int .u32 (0 : Int), .int .u64 (0 : Int), .slice none 0 0] 29)).alloc (.cells #[.int .i64 (0 : Int), .int .u16 (0 : Int), .int .u32 (0 : Int), .int .u16 (0 : Int), .int .u32 (0 : Int), .int .u64 (0 : Int), .slice none 0 0] 29)).cell? ⟨ad.block, ad.off + 1, none⟩ = some (.int .u8 83) := by rw [c1, e1]; rfl
  have c2' : ((w.alloc (.cells #[.int .i64 (0 : Int), .int .u16 (0 : Int), .int .u32 (0 : Int), .int .u16 (0 : Int), .int .u32 (0 : Int), .int .u64 (0 : Int), .slice none 0 0] 29)).alloc (.cells #[.int .i64 (0 : Int), .int .u16 (0 : Int), .int .u32 (0 : Int), .int .u16 (0 : Int), .int .u32 (0 : Int), .int .u64 (0 : Int), .slice none 0 0] 29)).cell? ⟨ad.block, ad.off + 2, none⟩ = some (.int .u8 1) := by rw [c2, e2]; rfl
  have c3 : ((w.alloc (.cells #[.int .i64 (0 : Int), .int .u16 (0 : Int), .int .u32 (0 : Int), .int .u16 (0 : Int), .int .u32 (0 : Int), .int .u64 (0 : Int), .slice none 0 0] 29)).alloc (.cells #[.int .i64 (0 : Int), .int .u16 (0 : Int), .int .u32 (0 : Int), .int .u16 (0 : Int), .int .u32 (0 : Int), .int .u64 (0 : Int), .slice none 0 0] 29)).cell? ⟨ad.block, ad.off + 3, none⟩ = some (.int .u8 (x3.toNat : Int)) := hcell 3 x3 rfl
  obtain ⟨sz, hsz⟩ : ∃ sz, sz = numL (((x0 :: x1 :: x2 :: x3 :: tl).drop 4).take 4) := ⟨_, rfl⟩
  obtain ⟨kk, hkk⟩ : ∃ kk, kk = x3.toNat := ⟨_, rfl⟩
  have hkke : ((x0 :: x1 :: x2 :: x3 :: tl).getD 3 0).toNat = kk := hkk.symm
  have hk8 := x3.toNat_lt
  rw [← hsz] at cn
  rw [← hkk] at c3 hk8
  have wn : IntKind.u64.wrap (n : Int) = (n : Int) := by rw [IntKind.wrap_u64]; omega
  clear e0 e1 e2 c0 c1 c2 hbz hA1' hkk
  generalize hl : x0 :: x1 :: x2 :: x3 :: tl = l at *
  clear hcell hl x0 x1 x2 x3 tl
  rw [← hsz, hlen] at h3
  have t3 : ((sz : Int) != (n : Int)) = true := by simp; omega
  clear hE hlen h2 h12 hsz h3 hkke
  go_enter Try.func17, Try.ntmps17
  go_wp2_with fail
  refine (cn _ hA1).mono ?_
  rintro e w1 ⟨rfl, rfl⟩
  clear cn
  go_wp2
  generalize ((w.alloc (.cells #[.int .i64 (0 : Int), .int .u16 (0 : Int), .int .u32 (0 : Int), .int .u16 (0 : Int), .int .u32 (0 : Int), .int .u64 (0 : Int), .slice none 0 0] 29)).alloc (.cells #[.int .i64 (0 : Int), .int .u16 (0 : Int), .int .u32 (0 : Int), .int .u16 (0 : Int), .int .u32 (0 : Int), .int .u64 (0 : Int), .slice none 0 0] 29)) = W at hP0 hb0 ⊢
  have HR := hide (⟨hb0, .inl ⟨by rw [HE.out]; decide, by rw [HE.out]; rfl⟩⟩ : DecodeP w l (.returned (.tuple #[.agg #[.int .i64 (0 : Int), .int .u16 (0 : Int), .int .u32 (0 : Int), .int .u16 (0 : Int), .int .u32 (0 : Int), .int .u64 (0 : Int), .slice none 0 0], .int .i64 5])) W)
  obtain ⟨f0, f1, f2, f3, f4, f5, f6⟩ := hP0.cells
  exact bodyPost_ret (v := .tuple #[.agg #[.int .i64 (0 : Int), .int .u16 (0 : Int), .int .u32 (0 : Int), .int .u16 (0 : Int), .int .u32 (0 : Int), .int .u64 (0 : Int), .slice none 0 0], .int .i64 5]) (by simp [results, Try.results17, go_sem, f0, f1, f2, f3, f4, f5, f6]) rfl HR.out
set_option maxRecDepth 100000 in
set_option maxHeartbeats 1000000 in
theorem rdecode_d (A : Option Addr) (n q : Nat) (l : List UInt8) (w : World) (hA : Bs w w.heap.size A n l) (hn : n ≤ q) (hq : q ≤ maxLen) (hn5 : n ≤ 70368744177664) (h12 : 12 ≤ l.length) (h2 : l.take 3 = [86, 83, 1]) (h3 : numL ((l.drop 4).take 4) = l.length) (h4 : numL (l.drop (l.length - 4)) ≠ sumN (l.take (l.length - 4))) :
    Calls Try.prog 17 #[.slice A n q] w (DecodeP w l) := by
  have hlen := hA.len
  have hb0 : Below w.heap.size w ((w.alloc (.cells #[.int .i64 (0 : Int), .int .u16 (0 : Int), .int .u32 (0 : Int), .int .u16 (0 : Int), .int .u32 (0 : Int), .int .u64 (0 : Int), .slice none 0 0] 29)).alloc (.cells #[.int .i64 (0 : Int), .int .u16 (0 : Int), .int .u32 (0 : Int), .int .u16 (0 : Int), .int .u32 (0 : Int), .int .u64 (0 : Int), .slice none 0 0] 29)) := ((Below.refl _ _).alloc (Nat.le_refl _) _).alloc (by simp) _
  have hA1 := (hA.below hb0).more hb0.size
  have hP0 : PkAt ((w.alloc (.cells #[.int .i64 (0 : Int), .int .u16 (0 : Int), .int .u32 (0 : Int), .int .u16 (0 : Int), .int .u32 (0 : Int), .int .u64 (0 : Int), .slice none 0 0] 29)).alloc (.cells #[.int .i64 (0 : Int), .int .u16 (0 : Int), .int .u32 (0 : Int), .int .u16 (0 : Int), .int .u32 (0 : Int), .int .u64 (0 : Int), .slice none 0 0] 29)) w.heap.size 0 0 0 0 0 0 none 0 0 := (PkAt.new w).alloc _
  have hZ0 : PkAt ((w.alloc (.cells #[.int .i64 (0 : Int), .int .u16 (0 : Int), .int .u32 (0 : Int), .int .u16 (0 : Int), .int .u32 (0 : Int), .int .u64 (0 : Int), .slice none 0 0] 29)).alloc (.cells #[.int .i64 (0 : Int), .int .u16 (0 : Int), .int .u32 (0 : Int), .int .u16 (0 : Int), .int .u32 (0 : Int), .int .u64 (0 : Int), .slice none 0 0] 29)) (w.heap.size + 1) 0 0 0 0 0 0 none 0 0 := by
    have := PkAt.new (k := 0) (i := 0) (c := 0) (j := 0) (d := 0) (s := 0) (A := none) (n := 0) (q := 0) (w.alloc (.cells #[.int .i64 (0 : Int), .int .u16 (0 : Int), .int .u32 (0 : Int), .int .u16 (0 : Int), .int .u32 (0 : Int), .int .u64 (0 : Int), .slice none 0 0] 29))
    simpa using this
  have hE := decE_4 h12 h2 h3 h4
  have HE := hide hE
  have h12n : ¬ n < 12 := by omega
  have t1 : ((n : Int) < 12) = False := by simp; omega
  obtain ⟨ad, rfl, hbl, hcell⟩ := hA1.2 (by omega)
  obtain ⟨x0, x1, x2, x3, tl, rfl⟩ : ∃ x0 x1 x2 x3 tl, l = x0 :: x1 :: x2 :: x3 :: tl := by
    match l, (show 4 ≤ l.length by omega) with
    | x0 :: x1 :: x2 :: x3 :: tl, _ => exact ⟨x0, x1, x2, x3, tl, rfl⟩
  have c0 : ((w.alloc (.cells #[.int .i64 (0 : Int), .int .u16 (0 : Int), .int .u32 (0 : Int), .int .u16 (0 : Int), .int .u32 (0 : Int), .int .u64 (0 : Int), .slice none 0 0] 29)).alloc (.cells #[.int .i64 (0 : Int), .int .u16 (0 : Int), .int .u32 (0 : Int), .int .u16 (0 : Int), .int .u32 (0 : Int), .int .u64 (0 : Int), .slice none 0 0] 29)).cell? ad = some (.int .u8 (x0.toNat : Int)) := hcell 0 x0 rfl
  have c1 : ((w.alloc (.cells #[.int .i64 (0 : Int), .int .u16 (0 : Int), .int .u32 (0 : Int), .int .u16 (0 : Int), .int .u32 (0 : Int), .int .u64 (0 : Int), .slice none 0 0] 29)).alloc (.cells #[.int .i64 (0 : Int), .int .u16 (0 : Int), .int .u32 (0 : Int), .int .u16 (0 : Int), .int .u32 (0 : Int), .int .u64 (0 : Int), .slice none 0 0] 29)).cell? ⟨ad.block, ad.off + 1, none⟩ = some (.int .u8 (x1.toNat : Int)) := hcell 1 x1 rfl
  have c2 : ((w.alloc (.cells #[.int .i64 (0 : Int), .int .u16 (0 : Int), .int .u32 (0 : Int), .int .u16 (0 : Int), .int .u32 (0 : Int), .int .u64 (0 : Int), .slice none 0 0] 29)).alloc (.cells #[.int .i64 (0 : Int), .int .u16 (0 : Int), .int .u32 (0 : Int), .int .u16 (0 : Int), .int .u32 (0 : Int), .int .u64 (0 : Int), .slice none 0 0] 29)).cell? ⟨ad.block, ad.off + 2, none⟩ = some (.int .u8 (x2.toNat : Int)) := hcell 2 x2 rfl
  have cn := fun W (h : Bs W W.heap.size (some ad) n (x0 :: x1 :: x2 :: x3 :: tl)) => number_any (some ⟨ad.block, ad.off + 4, none⟩) 4 (q - 4) (((x0 :: x1 :: x2 :: x3 :: tl).drop 4).take 4) W.heap.size W (by
    have h' := (h.cut (k := 4) (by omega) hn).take (k := 4) (by omega)
    rw [if_neg (by omega)] at h'
    exact h') (by decide)
  have h2' : [x0, x1, x2] = [86, 83, 1] := h2
  have hA1' := hA1
  have hbz := hA1'.2
  simp only [List.cons.injEq, and_true] at h2'
  obtain ⟨e0, e1, e2⟩ := h2'
  have c0' : ((w.alloc (.cells #[.int .i64 (0 : Int), .int .u16 (0 : Int), .int .u32 (0 : Int), .int .u16 (0 : Int), .int .u32 (0 : Int), .int .u64 (0 : Int), .slice none 0 0] 29)).alloc (.cells #[.int .i64 (0 : Int), .int .u16 (0 : Int), .int .u32 (0 : Int), .int .u16 (0 : Int), .int .u32 (0 : Int), .int .u64 (0 : Int), .slice none 0 0] 29)).cell? ad = some (.int .u8 86) := by rw [c0, e0]; rfl
  have c1' : ((w.alloc (.cells #[.int .i64 (0 : Int), .int .u16 (0 : Int), .int .u32 (0 : Int), .int .u16 (0 : Int), .int .u32 (0 : Int), .int .u64 (0 : Int), .slice none 0 0] 29)).alloc (.cells #[.int .i64 (0 : Int), .int .u16 (0 : Int), .int .u32 (0 : Int), .int .u16 (0 : Int), .int .u32 (0 : Int), .int .u64 (0 : Int), .slice none 0 0] 29)).cell? ⟨ad.block, ad.off + 1, none⟩ = some (.int .u8 83) := by rw [c1, e1]; rfl
  have c2' : ((w.alloc (.cells #[.int .i64 (0 : Int), .int .u16 (0 : Int), .int .u32 (0 : Int), .int .u16 (0 : Int), .int .u32 (0 : Int), .int .u64 (0 : Int), .slice none 0 0] 29)).alloc (.cells #[.int .i64 (0 : Int), .int .u16 (0 : Int), .int .u32 (0 : Int), .int .u16 (0 : Int), .int .u32 (0 : Int), .int .u64 (0 : Int), .slice none 0 0] 29)).cell? ⟨ad.block, ad.off + 2, none⟩ = some (.int .u8 1) := by rw [c2, e2]; rfl
  have c3 : ((w.alloc (.cells #[.int .i64 (0 : Int), .int .u16 (0 : Int), .int .u32 (0 : Int), .int .u16 (0 : Int), .int .u32 (0 : Int), .int .u64 (0 : Int), .slice none 0 0] 29)).alloc (.cells #[.int .i64 (0 : Int), .int .u16 (0 : Int), .int .u32 (0 : Int), .int .u16 (0 : Int), .int .u32 (0 : Int), .int .u64 (0 : Int), .slice none 0 0] 29)).cell? ⟨ad.block, ad.off + 3, none⟩ = some (.int .u8 (x3.toNat : Int)) := hcell 3 x3 rfl
  obtain ⟨sz, hsz⟩ : ∃ sz, sz = numL (((x0 :: x1 :: x2 :: x3 :: tl).drop 4).take 4) := ⟨_, rfl⟩
  obtain ⟨kk, hkk⟩ : ∃ kk, kk = x3.toNat := ⟨_, rfl⟩
  have hkke : ((x0 :: x1 :: x2 :: x3 :: tl).getD 3 0).toNat = kk := hkk.symm
  have hk8 := x3.toNat_lt
  rw [← hsz] at cn
  rw [← hkk] at c3 hk8
  have wn : IntKind.u64.wrap (n : Int) = (n : Int) := by rw [IntKind.wrap_u64]; omega
  clear e0 e1 e2 c0 c1 c2 hbz hA1' hkk
  generalize hl : x0 :: x1 :: x2 :: x3 :: tl = l at *
  clear hcell hl x0 x1 x2 x3 tl
  rw [← hsz, hlen] at h3
  subst h3
  obtain ⟨m, hm⟩ : ∃ m, sz = m + 4 := ⟨sz - 4, by omega⟩
  have hm4 : l.length - 4 = m := by omega
  rw [hm4] at h4
  have co := ropen_no (some ad) m sz q l _ _ hA1 hm hn hn5 h4
  have HM := hide hm
  clear hE hlen h2 h12 h4 hm4 hm hkke hsz
  go_enter Try.func17, Try.ntmps17
  go_wp2_with fail
  refine (cn _ hA1).mono ?_
  rintro e w1 ⟨rfl, rfl⟩
  clear cn
  go_wp2_with fail
  refine co.mono ?_
  rintro e w1 ⟨rfl, hd1⟩
  have hb1 := drawn_below hd1 (B := ((w.alloc (.cells #[.int .i64 (0 : Int), .int .u16 (0 : Int), .int .u32 (0 : Int), .int .u16 (0 : Int), .int .u32 (0 : Int), .int .u64 (0 : Int), .slice none 0 0] 29)).alloc (.cells #[.int .i64 (0 : Int), .int .u16 (0 : Int), .int .u32 (0 : Int), .int .u16 (0 : Int), .int .u32 (0 : Int), .int .u64 (0 : Int), .slice none 0 0] 29)).heap.size)
  have hP1 := hP0.later hb1
  have hZ1 := hZ0.later hb1
  have hx1 := hb0.trans (hb1.mono hb0.size)
  obtain ⟨f0, f1, f2, f3, f4, f5, f6⟩ := hP1.cells
  obtain ⟨z0, z1, z2, z3, z4, z5, z6⟩ := hZ1.cells
  have fz := hP1.frozen
  have hPz := hP1.put 0 0 0 0 0 0 none 0 0
  have hxz := below_put hx1 (Nat.le_refl _) 0 0 0 0 0 0 none 0 0
  clear hd1 hb1 co hP0 hZ0 hb0 hA1 hP1 hx1 hZ1
  go_wp2
  generalize (((((((w1.setCell ⟨w.heap.size, 0, none⟩ (.int .i64 (0 : Int))).setCell ⟨w.heap.size, 1, none⟩ (.int .u16 (0 : Int))).setCell ⟨w.heap.size, 2, none⟩ (.int .u32 (0 : Int))).setCell ⟨w.heap.size, 3, none⟩ (.int .u16 (0 : Int))).setCell ⟨w.heap.size, 4, none⟩ (.int .u32 (0 : Int))).setCell ⟨w.heap.size, 5, none⟩ (.int .u64 (0 : Int))).setCell ⟨w.heap.size, 6, none⟩ (.slice none 0 0)) = W at hPz hxz ⊢
  have HR := hide (⟨hxz, .inl ⟨by rw [HE.out]; decide, by rw [HE.out]; rfl⟩⟩ : DecodeP w l (.returned (.tuple #[.agg #[.int .i64 (0 : Int), .int .u16 (0 : Int), .int .u32 (0 : Int), .int .u16 (0 : Int), .int .u32 (0 : Int), .int .u64 (0 : Int), .slice none 0 0], .int .i64 4])) W)
  clear f0 f1 f2 f3 f4 f5 f6 fz
  obtain ⟨f0, f1, f2, f3, f4, f5, f6⟩ := hPz.cells
  exact bodyPost_ret (v := .tuple #[.agg #[.int .i64 (0 : Int), .int .u16 (0 : Int), .int .u32 (0 : Int), .int .u16 (0 : Int), .int .u32 (0 : Int), .int .u64 (0 : Int), .slice none 0 0], .int .i64 4]) (by simp [results, Try.results17, go_sem, f0, f1, f2, f3, f4, f5, f6]) rfl HR.out
end Go.Proofs.Ytkhkihobbfecoaa
