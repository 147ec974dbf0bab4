/-
  Frames: the contract of the reader of a form's fields.
-/
import Derived.Test.YtkhkihobbfecoaaFrame6
namespace Go.Proofs.Ytkhkihobbfecoaa
open Go.RowKit
set_option linter.unusedVariables false
set_option linter.unusedSimpArgs false

/-- A store in an older block leaves what is the call's own. -/
theorem OwnB.setOld {w : World} {base n : Nat} {v : Value} {l : List UInt8} (h : OwnB w base v n l) {p : Addr} (hp : p.block < base) (u : Value) : OwnB (w.setCell p u) base v n l := by
  refine ⟨h.1, ?_⟩
  rcases h.2 with h0 | ⟨g, cap, cur, hv, hb, hg, h1, h2, h3, h4⟩
  · exact .inl h0
  · exact .inr ⟨g, cap, cur, hv, hb, (heap_setCell_other w p g u (by omega)).trans hg, h1, h2, h3, h4⟩
section
variable {w w' : World} {b i c j d s n q : Nat} {k : Int} {A : Option Addr}
theorem heap_set {cs : Array Value} {t : TypeId} (h : w.heap[b]? = some (.cells cs t)) (x : Nat) (v : Value) : (w.setCell ⟨b, x, none⟩ v).heap[b]? = some (.cells (cs.setIfInBounds x v) t) := by
  have e := heap_setCell_same w b x cs _ v h
  rw [e]
theorem PkAt.set0 (h : PkAt w b k i c j d s A n q) (k' : Int) : PkAt (w.setCell ⟨b, 0, none⟩ (.int .i64 k')) b k' i c j d s A n q := heap_set h 0 _
theorem PkAt.set1 (h : PkAt w b k i c j d s A n q) (i' c' : Nat) : PkAt ((w.setCell ⟨b, 1, none⟩ (.int .u16 (i' : Int))).setCell ⟨b, 2, none⟩ (.int .u32 (c' : Int))) b k i' c' j d s A n q := heap_set (heap_set h 1 _) 2 _
theorem PkAt.set3 (h : PkAt w b k i c j d s A n q) (i' c' : Nat) : PkAt ((w.setCell ⟨b, 3, none⟩ (.int .u16 (i' : Int))).setCell ⟨b, 4, none⟩ (.int .u32 (c' : Int))) b k i c i' c' s A n q := heap_set (heap_set h 3 _) 4 _
theorem PkAt.set5 (h : PkAt w b k i c j d s A n q) (s' : Nat) : PkAt (w.setCell ⟨b, 5, none⟩ (.int .u64 (s' : Int))) b k i c j d s' A n q := heap_set h 5 _
theorem PkAt.set6 (h : PkAt w b k i c j d s A n q) (A' : Option Addr) (n' q' : Nat) : PkAt (w.setCell ⟨b, 6, none⟩ (.slice A' n' q')) b k i c j d s A' n' q' := heap_set h 6 _
theorem PkAt.put (h : PkAt w b k i c j d s A n q) (k' : Int) (i' c' j' d' s' : Nat) (A' : Option Addr) (n' q' : Nat) : PkAt (((((((w.setCell ⟨b, 0, none⟩ (.int .i64 (k' : Int))).setCell ⟨b, 1, none⟩ (.int .u16 (i' : Int))).setCell ⟨b, 2, none⟩ (.int .u32 (c' : Int))).setCell ⟨b, 3, none⟩ (.int .u16 (j' : Int))).setCell ⟨b, 4, none⟩ (.int .u32 (d' : Int))).setCell ⟨b, 5, none⟩ (.int .u64 (s' : Int))).setCell ⟨b, 6, none⟩ (.slice A' n' q')) b k' i' c' j' d' s' A' n' q' :=
  ((((h.set0 k').set1 i' c').set3 j' d').set5 s').set6 A' n' q'
theorem below_put {B : Nat} {w0 : World} (h : Below B w0 w) (hb : B ≤ b) (k' : Int) (i' c' j' d' s' : Nat) (A' : Option Addr) (n' q' : Nat) : Below B w0 (((((((w.setCell ⟨b, 0, none⟩ (.int .i64 (k' : Int))).setCell ⟨b, 1, none⟩ (.int .u16 (i' : Int))).setCell ⟨b, 2, none⟩ (.int .u32 (c' : Int))).setCell ⟨b, 3, none⟩ (.int .u16 (j' : Int))).setCell ⟨b, 4, none⟩ (.int .u32 (d' : Int))).setCell ⟨b, 5, none⟩ (.int .u64 (s' : Int))).setCell ⟨b, 6, none⟩ (.slice A' n' q')) :=
  ((((((h.setCell (p := ⟨b, 0, none⟩) hb _).setCell (p := ⟨b, 1, none⟩) hb _).setCell (p := ⟨b, 2, none⟩) hb _).setCell (p := ⟨b, 3, none⟩) hb _).setCell (p := ⟨b, 4, none⟩) hb _).setCell (p := ⟨b, 5, none⟩) hb _).setCell (p := ⟨b, 6, none⟩) hb _
theorem OwnB.put {base m : Nat} {v : Value} {l : List UInt8} (h : OwnB w base v m l) (hb : b < base) (k' : Int) (i' c' j' d' s' : Nat) (A' : Option Addr) (n' q' : Nat) : OwnB (((((((w.setCell ⟨b, 0, none⟩ (.int .i64 (k' : Int))).setCell ⟨b, 1, none⟩ (.int .u16 (i' : Int))).setCell ⟨b, 2, none⟩ (.int .u32 (c' : Int))).setCell ⟨b, 3, none⟩ (.int .u16 (j' : Int))).setCell ⟨b, 4, none⟩ (.int .u32 (d' : Int))).setCell ⟨b, 5, none⟩ (.int .u64 (s' : Int))).setCell ⟨b, 6, none⟩ (.slice A' n' q')) base v m l :=
  ((((((h.setOld (p := ⟨b, 0, none⟩) hb _).setOld (p := ⟨b, 1, none⟩) hb _).setOld (p := ⟨b, 2, none⟩) hb _).setOld (p := ⟨b, 3, none⟩) hb _).setOld (p := ⟨b, 4, none⟩) hb _).setOld (p := ⟨b, 5, none⟩) hb _).setOld (p := ⟨b, 6, none⟩) hb _
end
/-- What the reader of fields answers. -/
def FieldsP (w : World) (l : List UInt8) (e : Ending) (w' : World) : Prop :=
  ∃ (i c j d s : Nat) (A' : Option Addr) (n' q' t : Nat), e = .returned (.tuple #[.agg #[.int .i64 (0 : Int), .int .u16 (i : Int), .int .u32 (c : Int), .int .u16 (j : Int), .int .u32 (d : Int), .int .u64 (s : Int), .slice A' n' q'], .int .i64 (t : Int)]) ∧ Below w.heap.size w w' ∧
    (i < 65536 ∧ c < 4294967296 ∧ j < 65536 ∧ d < 4294967296 ∧ s < 18446744073709551616) ∧
    ((fieldsF l = none ∧ t ≠ 0) ∨ ∃ r, fieldsF l = some (i, c, j, d, s, r) ∧ t = 0 ∧ n' = r.length ∧ OwnB w' w.heap.size (.slice A' n' q') n' r)
theorem fieldsF_1 {l : List UInt8} {i a u t : Nat} (h : pidG l = (i, a, u, t)) (ht : t ≠ 0) : fieldsF l = none := by
  unfold fieldsF; rw [h]; exact if_neg ht
theorem fieldsF_2 {l : List UInt8} {i a u j b v t : Nat} (h : pidG l = (i, a, u, 0)) (h2 : pidG (l.drop u) = (j, b, v, t)) (ht : t ≠ 0) : fieldsF l = none := by
  unfold fieldsF; rw [h]; simp only [if_true]; rw [h2]; exact if_neg ht
theorem fieldsF_3 {l : List UInt8} {i a u j b v s y t : Nat} (h : pidG l = (i, a, u, 0)) (h2 : pidG (l.drop u) = (j, b, v, 0)) (h3 : getF ((l.drop u).drop v) = (s, y, t)) (ht : t ≠ 0) : fieldsF l = none := by
  unfold fieldsF; rw [h]; simp only [if_true]; rw [h2]; simp only [if_true]; rw [h3]; exact if_neg ht
theorem fieldsF_4 {l : List UInt8} {i a u j b v s y : Nat} (h : pidG l = (i, a, u, 0)) (h2 : pidG (l.drop u) = (j, b, v, 0)) (h3 : getF ((l.drop u).drop v) = (s, y, 0)) : fieldsF l = some (i, a, j, b, s, ((l.drop u).drop v).drop y) := by
  unfold fieldsF; rw [h]; simp only [if_true]; rw [h2]; simp only [if_true]; rw [h3]; exact if_pos rfl
set_option maxRecDepth 100000 in
theorem fields_any (A : Option Addr) (n q : Nat) (l : List UInt8) (w : World) (hA : Bs w w.heap.size A n l) (hn : n ≤ q) (hq : q ≤ maxLen) (hn5 : n ≤ 70368744177664) :
    Calls Try.prog 34 #[.slice A n q] w (FieldsP w l) := by
  obtain ⟨i, a, u, t, h1⟩ : ∃ i a u t, pidG l = (i, a, u, t) := ⟨_, _, _, _, rfl⟩
  obtain ⟨j, b, v, t', h2⟩ : ∃ x1 x2 x3 x4, pidG (l.drop u) = (x1, x2, x3, x4) := ⟨_, _, _, _, rfl⟩
  obtain ⟨s, y, t'', h3⟩ : ∃ x1 x2 x3, getF ((l.drop u).drop v) = (x1, x2, x3) := ⟨_, _, _, rfl⟩
  have r1 := pidG_bds l
  have r2 := pidG_bds (l.drop u)
  have r3 := getF_bds ((l.drop u).drop v)
  rw [h1] at r1
  rw [h2] at r2
  rw [h3] at r3
  simp only at r1 r2 r3
  obtain ⟨hi, ha, -, -⟩ := r1
  obtain ⟨hj, hb, -, -⟩ := r2
  obtain ⟨hs, -, -, -⟩ := r3
  have c1 := fun W (h : Bs W w.heap.size A n l) (h' : w.heap.size ≤ W.heap.size) => takeP_any A n q l w.heap.size i a u t W h h' hn hq h1
  have c2 := fun W X x y (h : Bs W w.heap.size X x (l.drop u)) (h' : w.heap.size ≤ W.heap.size) (h4 : x ≤ y) (h5 : y ≤ maxLen) => takeP_any X x y (l.drop u) w.heap.size j b v t' W h h' h4 h5 h2
  have c3 := fun W X x z (h : Bs W w.heap.size X x ((l.drop u).drop v)) (h' : w.heap.size ≤ W.heap.size) (h4 : x ≤ z) (h5 : z ≤ maxLen) => takeN_any X x z ((l.drop u).drop v) w.heap.size s y t'' W h h' h4 h5 h3
  have F1 := hide (fun ht : t ≠ 0 => fieldsF_1 h1 ht)
  have F2 := hide (fun (h0 : t = 0) (ht : t' ≠ 0) => fieldsF_2 (h0 ▸ h1) h2 ht)
  have F3 := hide (fun (h0 : t = 0) (h0' : t' = 0) (ht : t'' ≠ 0) => fieldsF_3 (h0 ▸ h1) (h0' ▸ h2) h3 ht)
  have F4 := hide (fun (h0 : t = 0) (h0' : t' = 0) (h0'' : t'' = 0) => fieldsF_4 (h0 ▸ h1) (h0' ▸ h2) (h0'' ▸ h3))
  clear h1 h2 h3
  have hA1 := hA.alloc (Nat.le_refl _) (.cells #[.int .i64 (0 : Int), .int .u16 (0 : Int), .int .u32 (0 : Int), .int .u16 (0 : Int), .int .u32 (0 : Int), .int .u64 (0 : Int), .slice none 0 0] 29)
  have hb0 : Below w.heap.size w (w.alloc (.cells #[.int .i64 (0 : Int), .int .u16 (0 : Int), .int .u32 (0 : Int), .int .u16 (0 : Int), .int .u32 (0 : Int), .int .u64 (0 : Int), .slice none 0 0] 29)) := (Below.refl _ _).alloc (Nat.le_refl _) _
  go_enter Try.func34, Try.ntmps34
  go_wp2_with fail
  refine (c1 _ hA1 (by simp)).mono ?_
  rintro e w1 ⟨A1, q1, rfl, hB1, hq1, hm1, hb1⟩
  have hP1 : PkAt w1 w.heap.size 0 0 0 0 0 0 none 0 0 := PkAt.later (PkAt.new w) hb1
  have hx1 := hb0.trans (hb1.mono (by simp))
  obtain ⟨f0, f1, f2, f3, f4, f5, f6⟩ := hP1.cells
  have fz := hP1.frozen
  clear c1 hA1 hb0 hb1
  have hB1' : Bs ((w1.setCell ⟨w.heap.size, 1, none⟩ (.int .u16 (i : Int))).setCell ⟨w.heap.size, 2, none⟩ (.int .u32 (a : Int))) w.heap.size A1 (n - u) (l.drop u) := (hB1.setCell (p := ⟨w.heap.size, 1, none⟩) (Nat.le_refl _) _).setCell (p := ⟨w.heap.size, 2, none⟩) (Nat.le_refl _) _
  have hP1' := hP1.set1 i a
  have hx1' : Below w.heap.size w ((w1.setCell ⟨w.heap.size, 1, none⟩ (.int .u16 (i : Int))).setCell ⟨w.heap.size, 2, none⟩ (.int .u32 (a : Int))) := (hx1.setCell (p := ⟨w.heap.size, 1, none⟩) (Nat.le_refl _) _).setCell (p := ⟨w.heap.size, 2, none⟩) (Nat.le_refl _) _
  by_cases ht : t = 0
  · subst ht
    go_wp2_with fail
    generalize ((w1.setCell ⟨w.heap.size, 1, none⟩ (.int .u16 (i : Int))).setCell ⟨w.heap.size, 2, none⟩ (.int .u32 (a : Int))) = v1 at hB1' hP1' hx1' ⊢
    clear f0 f1 f2 f3 f4 f5 f6 fz hB1 hP1 hx1
    refine (c2 v1 A1 (n - u) q1 hB1' hx1'.size hq1 hm1).mono ?_
    rintro e w2 ⟨A2, q2, rfl, hB2, hq2, hm2, hb2⟩
    have hP2 := hP1'.later hb2
    have hx2 := hx1'.trans (hb2.mono hx1'.size)
    obtain ⟨f0, f1, f2, f3, f4, f5, f6⟩ := hP2.cells
    have fz := hP2.frozen
    have hB2' : Bs ((w2.setCell ⟨w.heap.size, 3, none⟩ (.int .u16 (j : Int))).setCell ⟨w.heap.size, 4, none⟩ (.int .u32 (b : Int))) w.heap.size A2 (n - u - v) ((l.drop u).drop v) := (hB2.setCell (p := ⟨w.heap.size, 3, none⟩) (Nat.le_refl _) _).setCell (p := ⟨w.heap.size, 4, none⟩) (Nat.le_refl _) _
    have hP2' := hP2.set3 j b
    have hx2' : Below w.heap.size w ((w2.setCell ⟨w.heap.size, 3, none⟩ (.int .u16 (j : Int))).setCell ⟨w.heap.size, 4, none⟩ (.int .u32 (b : Int))) := (hx2.setCell (p := ⟨w.heap.size, 3, none⟩) (Nat.le_refl _) _).setCell (p := ⟨w.heap.size, 4, none⟩) (Nat.le_refl _) _
    clear c2 hb2 hB1' hP1' hx1'
    by_cases ht' : t' = 0
    · subst ht'
      go_wp2_with fail
      generalize ((w2.setCell ⟨w.heap.size, 3, none⟩ (.int .u16 (j : Int))).setCell ⟨w.heap.size, 4, none⟩ (.int .u32 (b : Int))) = v2 at hB2' hP2' hx2' ⊢
      clear f0 f1 f2 f3 f4 f5 f6 fz hB2 hP2 hx2
      refine (c3 v2 A2 (n - u - v) q2 hB2' hx2'.size hq2 hm2).mono ?_
      rintro e w3 ⟨A3, q3, rfl, hB3, hq3, hm3, hb3⟩
      have hP3 := hP2'.later hb3
      have hx3 := hx2'.trans (hb3.mono hx2'.size)
      obtain ⟨f0, f1, f2, f3, f4, f5, f6⟩ := hP3.cells
      have fz := hP3.frozen
      have hB3' : Bs (w3.setCell ⟨w.heap.size, 5, none⟩ (.int .u64 (s : Int))) w.heap.size A3 (n - u - v - y) (((l.drop u).drop v).drop y) := hB3.setCell (p := ⟨w.heap.size, 5, none⟩) (Nat.le_refl _) _
      have hP3' := hP3.set5 s
      have hx3' : Below w.heap.size w (w3.setCell ⟨w.heap.size, 5, none⟩ (.int .u64 (s : Int))) := hx3.setCell (p := ⟨w.heap.size, 5, none⟩) (Nat.le_refl _) _
      clear c3 hb3 hB2' hP2' hx2'
      by_cases ht'' : t'' = 0
      · subst ht''
        obtain ⟨v3, hv3⟩ : ∃ v3, v3 = (w3.setCell ⟨w.heap.size, 5, none⟩ (.int .u64 (s : Int))) := ⟨_, rfl⟩
        rw [← hv3] at hB3' hP3' hx3'
        have hlt : w.heap.size < v3.heap.size := hP3'.lt
        obtain ⟨m, hm⟩ : ∃ m, m = n - u - v - y := ⟨_, rfl⟩
        rw [← hm] at hB3'
        have hm5 : 0 + m ≤ 140737488355328 := by omega
        have HV := hide hv3
        have HM := hide hm
        clear hv3 hm
        obtain ⟨r, hr⟩ : ∃ r, r = ((l.drop u).drop v).drop y := ⟨_, rfl⟩
        have hF4 := F4.out trivial trivial rfl
        rw [← hr] at hB3' hF4
        have HF := hide hF4
        clear hF4 hr F4 F3 F2 F1
        go_wp2_with (at_builtin; rw [← HV.out, ← HM.out]; refine wp_bytes_own _ rfl (.tmp 38) (.tmp 39) rfl v3.heap.size 0 _ [] rfl (OwnB.nil_ _ _) _ A3 m q3 r rfl hB3' hm5 v3.heap.size v3 (Below.refl _ _) (Nat.le_refl _) (Nat.le_refl _) ?_)
        intro A4 c4 w4 hO4 hb4 hsz4
        have hP4 := hP3'.later hb4
        have hx4 : Below w.heap.size w w4 := hx3'.trans (hb4.mono hx3'.size)
        clear f0 f1 f2 f3 f4 f5 f6 fz hB3 hP3 hx3 hB3' hP3' hx3' hb4 hsz4 HV HM
        try simp only [Nat.zero_add, List.nil_append] at hO4 ⊢
        obtain ⟨f0, f1, f2, f3, f4, f5, f6⟩ := hP4.cells
        have fz := hP4.frozen
        have hPz := (hP4.set6 A4 m c4).put 0 i a j b s A4 m c4
        have hxz := below_put (hx4.setCell (p := ⟨w.heap.size, 6, none⟩) (Nat.le_refl _) (.slice A4 m c4)) (Nat.le_refl _) 0 i a j b s A4 m c4
        have hOz := (OwnB.put (hO4.setOld (p := ⟨w.heap.size, 6, none⟩) hlt (.slice A4 m c4)) hlt 0 i a j b s A4 m c4).mono (base' := w.heap.size) (Nat.le_of_lt hlt)
        have hml : m = r.length := hO4.len.symm
        have HM := hide hml
        clear hml hO4 hx4 hP4
        go_wp2
        generalize ((((((((w4.setCell ⟨w.heap.size, 6, none⟩ (.slice A4 m c4)).setCell ⟨w.heap.size, 0, none⟩ (.int .i64 (0 : Int))).setCell ⟨w.heap.size, 1, none⟩ (.int .u16 (i : Int))).setCell ⟨w.heap.size, 2, none⟩ (.int .u32 (a : Int))).setCell ⟨w.heap.size, 3, none⟩ (.int .u16 (j : Int))).setCell ⟨w.heap.size, 4, none⟩ (.int .u32 (b : Int))).setCell ⟨w.heap.size, 5, none⟩ (.int .u64 (s : Int))).setCell ⟨w.heap.size, 6, none⟩ (.slice A4 m c4)) = W at hPz hxz hOz ⊢
        have HR := hide (⟨i, a, j, b, s, A4, m, c4, 0, rfl, hxz, ⟨hi, ha, hj, hb, hs⟩, .inr ⟨r, HF.out, rfl, HM.out, hOz⟩⟩ : FieldsP w l (.returned (.tuple #[.agg #[.int .i64 (0 : Int), .int .u16 (i : Int), .int .u32 (a : Int), .int .u16 (j : Int), .int .u32 (b : Int), .int .u64 (s : Int), .slice A4 m c4], .int .i64 0])) W)
        clear f0 f1 f2 f3 f4 f5 f6 fz hOz
        obtain ⟨f0, f1, f2, f3, f4, f5, f6⟩ := hPz.cells
        exact bodyPost_ret (v := .tuple #[.agg #[.int .i64 (0 : Int), .int .u16 (i : Int), .int .u32 (a : Int), .int .u16 (j : Int), .int .u32 (b : Int), .int .u64 (s : Int), .slice A4 m c4], .int .i64 0]) (by simp [results, Try.results34, go_sem, f0, f1, f2, f3, f4, f5, f6]) rfl HR.out
      · have t1 : ((t'' : Int) != 0) = true := by simp; omega
        have hPz := hP3'.put 0 i a j b s none 0 0
        have hxz := below_put hx3' (Nat.le_refl _) 0 i a j b s none 0 0
        go_wp2
        generalize ((((((((w3.setCell ⟨w.heap.size, 5, none⟩ (.int .u64 (s : Int))).setCell ⟨w.heap.size, 0, none⟩ (.int .i64 (0 : Int))).setCell ⟨w.heap.size, 1, none⟩ (.int .u16 (i : Int))).setCell ⟨w.heap.size, 2, none⟩ (.int .u32 (a : Int))).setCell ⟨w.heap.size, 3, none⟩ (.int .u16 (j : Int))).setCell ⟨w.heap.size, 4, none⟩ (.int .u32 (b : Int))).setCell ⟨w.heap.size, 5, none⟩ (.int .u64 (s : Int))).setCell ⟨w.heap.size, 6, none⟩ (.slice none 0 0)) = W at hPz hxz ⊢
        have HR := hide (⟨i, a, j, b, s, none, 0, 0, t'', rfl, hxz, ⟨hi, ha, hj, hb, hs⟩, .inl ⟨F3.out trivial trivial ht'', ht''⟩⟩ : FieldsP w l (.returned (.tuple #[.agg #[.int .i64 (0 : Int), .int .u16 (i : Int), .int .u32 (a : Int), .int .u16 (j : Int), .int .u32 (b : Int), .int .u64 (s : Int), .slice none 0 0], .int .i64 (t'' : Int)])) W)
        clear f0 f1 f2 f3 f4 f5 f6 fz hB3 hP3 hx3 hB3' hP3' hx3'
        obtain ⟨f0, f1, f2, f3, f4, f5, f6⟩ := hPz.cells
        exact bodyPost_ret (v := .tuple #[.agg #[.int .i64 (0 : Int), .int .u16 (i : Int), .int .u32 (a : Int), .int .u16 (j : Int), .int .u32 (b : Int), .int .u64 (s : Int), .slice none 0 0], .int .i64 (t'' : Int)]) (by simp [results, Try.results34, go_sem, f0, f1, f2, f3, f4, f5, f6]) rfl HR.out
    · have t1 : ((t' : Int) != 0) = true := by simp; omega
      have hPz := hP2'.put 0 i a j b 0 none 0 0
      have hxz := below_put hx2' (Nat.le_refl _) 0 i a j b 0 none 0 0
      go_wp2
      generalize (((((((((w2.setCell ⟨w.heap.size, 3, none⟩ (.int .u16 (j : Int))).setCell ⟨w.heap.size, 4, none⟩ (.int .u32 (b : Int))).setCell ⟨w.heap.size, 0, none⟩ (.int .i64 (0 : Int))).setCell ⟨w.heap.size, 1, none⟩ (.int .u16 (i : Int))).setCell ⟨w.heap.size, 2, none⟩ (.int .u32 (a : Int))).setCell ⟨w.heap.size, 3, none⟩ (.int .u16 (j : Int))).setCell ⟨w.heap.size, 4, none⟩ (.int .u32 (b : Int))).setCell ⟨w.heap.size, 5, none⟩ (.int .u64 (0 : Int))).setCell ⟨w.heap.size, 6, none⟩ (.slice none 0 0)) = W at hPz hxz ⊢
      have HR := hide (⟨i, a, j, b, 0, none, 0, 0, t', rfl, hxz, ⟨hi, ha, hj, hb, by decide⟩, .inl ⟨F2.out trivial ht', ht'⟩⟩ : FieldsP w l (.returned (.tuple #[.agg #[.int .i64 (0 : Int), .int .u16 (i : Int), .int .u32 (a : Int), .int .u16 (j : Int), .int .u32 (b : Int), .int .u64 (0 : Int), .slice none 0 0], .int .i64 (t' : Int)])) W)
      clear f0 f1 f2 f3 f4 f5 f6 fz hB2 hP2 hx2 hB2' hP2' hx2'
      obtain ⟨f0, f1, f2, f3, f4, f5, f6⟩ := hPz.cells
      exact bodyPost_ret (v := .tuple #[.agg #[.int .i64 (0 : Int), .int .u16 (i : Int), .int .u32 (a : Int), .int .u16 (j : Int), .int .u32 (b : Int), .int .u64 (0 : Int), .slice none 0 0], .int .i64 (t' : Int)]) (by simp [results, Try.results34, go_sem, f0, f1, f2, f3, f4, f5, f6]) rfl HR.out
  · have t1 : ((t : Int) != 0) = true := by simp; omega
    have hPz := hP1'.put 0 i a 0 0 0 none 0 0
    have hxz := below_put hx1' (Nat.le_refl _) 0 i a 0 0 0 none 0 0
    go_wp2
    generalize (((((((((w1.setCell ⟨w.heap.size, 1, none⟩ (.int .u16 (i : Int))).setCell ⟨w.heap.size, 2, none⟩ (.int .u32 (a : Int))).setCell ⟨w.heap.size, 0, none⟩ (.int .i64 (0 : Int))).setCell ⟨w.heap.size, 1, none⟩ (.int .u16 (i : Int))).setCell ⟨w.heap.size, 2, none⟩ (.int .u32 (a : Int))).setCell ⟨w.heap.size, 3, none⟩ (.int .u16 (0 : Int))).setCell ⟨w.heap.size, 4, none⟩ (.int .u32 (0 : Int))).setCell ⟨w.heap.size, 5, none⟩ (.int .u64 (0 : Int))).setCell ⟨w.heap.size, 6, none⟩ (.slice none 0 0)) = W at hPz hxz ⊢
    have HR := hide (⟨i, a, 0, 0, 0, none, 0, 0, t, rfl, hxz, ⟨hi, ha, by decide, by decide, by decide⟩, .inl ⟨F1.out ht, ht⟩⟩ : FieldsP w l (.returned (.tuple #[.agg #[.int .i64 (0 : Int), .int .u16 (i : Int), .int .u32 (a : Int), .int .u16 (0 : Int), .int .u32 (0 : Int), .int .u64 (0 : Int), .slice none 0 0], .int .i64 (t : Int)])) W)
    clear f0 f1 f2 f3 f4 f5 f6 fz hB1 hP1 hx1 hB1' hP1' hx1'
    obtain ⟨f0, f1, f2, f3, f4, f5, f6⟩ := hPz.cells
    exact bodyPost_ret (v := .tuple #[.agg #[.int .i64 (0 : Int), .int .u16 (i : Int), .int .u32 (a : Int), .int .u16 (0 : Int), .int .u32 (0 : Int), .int .u64 (0 : Int), .slice none 0 0], .int .i64 (t : Int)]) (by simp [results, Try.results34, go_sem, f0, f1, f2, f3, f4, f5, f6]) rfl HR.out
end Go.Proofs.Ytkhkihobbfecoaa
