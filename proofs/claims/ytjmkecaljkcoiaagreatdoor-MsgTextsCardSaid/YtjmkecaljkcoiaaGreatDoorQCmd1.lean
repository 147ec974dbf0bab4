import Derived.Laws.BytesArg
import Derived.Test.YtjmkecaljkcoiaaGreatDoorQBytes1
import Derived.Test.YtjmkecaljkcoiaaGreatDoorQOpenC
import Derived.Test.YtjmkecaljkcoiaaGreatDoorQViewE
namespace Go.Proofs.YtjmkecaljkcoiaaGreatDoor
open Go.RowKit
set_option linter.unusedVariables false
set_option linter.unusedSimpArgs false
def strB (l : List UInt8) : ByteArray := ⟨l.toArray⟩
theorem conv_bytes (A : Option Addr) (n c : Nat) (l : List UInt8) (B : Nat) (w : World) (hA : Bs w B A n l) :
    (convert 39 9 (.slice A n c)).run Tryz.prog w = .ok (.string (strB l)) w := by
  cases A with
  | none =>
    have hl : l = [] := by
      rcases Nat.eq_zero_or_pos n with h0 | h0
      · exact List.eq_nil_of_length_eq_zero (by rw [hA.len, h0])
      · obtain ⟨ad, e, _⟩ := hA.2 h0; cases e
    subst hl
    exact run_convert_bytes_nil w 39 5 Tryz.underlying39 Tryz.underlying5 n c _ Tryz.underlying9
  | some ad =>
    have hcell : ∀ j v, (l.map byteV)[j]? = some v → w.cell? (ad.add j) = some v := by
      intro j v hv
      have hn : 0 < n := by
        rcases Nat.eq_zero_or_pos n with h0 | h0
        · have : l = [] := List.eq_nil_of_length_eq_zero (by rw [hA.len, h0])
          subst this; simp at hv
        · exact h0
      obtain ⟨ad', e, _, hc⟩ := hA.2 hn
      obtain rfl := Option.some.inj e
      rw [List.getElem?_map, Option.map_eq_some_iff] at hv
      obtain ⟨x, hx, rfl⟩ := hv
      exact hc j x hx
    have hload := run_loadCells_list (P := Tryz.prog) w ad (l.map byteV) hcell
    have e1 : (l.map byteV) = (l.map fun x => (x.toNat : Int)).map (Value.int .u8) := by
      rw [List.map_map]; rfl
    rw [List.length_map, hA.len, e1] at hload
    rw [run_convert_bytes_string w _ _ 5 _ n c Tryz.underlying39 Tryz.underlying5 Tryz.underlying9, run_bytesToString w ad n c _ hload, foldl_push_bytes]
    congr 2
    unfold strB
    simp [ByteArray.empty, ByteArray.emptyWithCapacity]
    show List.map ((fun n : Int => UInt8.ofNat n.toNat) ∘ fun x : UInt8 => (x.toNat : Int)) l = l
    conv => rhs; rw [← List.map_id l]
    refine List.map_congr_left fun x _ => ?_
    simp
theorem strB_eq (l m : List UInt8) : ((strB l).toList == (strB m).toList) = sameB l m := by
  unfold sameB strB
  rw [ByteArray.toList_mk, ByteArray.toList_mk]
  by_cases h : l = m
  · subst h; simp
  · rw [decide_eq_false h, beq_eq_false_iff_ne]
    exact h
theorem equal_any (A A' : Option Addr) (n m c c' : Nat) (l l' : List UInt8) (B B' : Nat) (w : World) (hA : Bs w B A n l) (hA' : Bs w B' A' m l') :
    Calls Tryz.prog 212 #[.slice A n c, .slice A' m c'] w fun e w' => e = .returned (.bool (sameB l l')) ∧ w = w' := by
  have h1 := conv_bytes A n c l B w hA
  have h2 := conv_bytes A' m c' l' B' w hA'
  rw [← strB_eq]
  generalize strB l = x at *
  generalize strB l' = y at *
  go_enter Tryz.func212, Tryz.ntmps212
  go_wp2
  go_ret
  exact ⟨rfl, rfl⟩
end Go.Proofs.YtjmkecaljkcoiaaGreatDoor
namespace Go.Proofs.YtjmkecaljkcoiaaGreatDoor
open Go.RowKit Go.Maps
set_option linter.unusedVariables false
set_option linter.unusedSimpArgs false
theorem cm_eq (a b : Cm) : a = b ↔ a.kind = b.kind ∧ a.p.i = b.p.i ∧ a.p.k = b.p.k ∧ a.num = b.num ∧ a.vn = b.vn ∧ a.d = b.d ∧ a.v = b.v :=
  ⟨fun h => by rw [h]; exact ⟨rfl, rfl, rfl, rfl, rfl, rfl, rfl⟩, fun h => Cm.ext' h.1 (Pr.ext h.2.1 h.2.2.1) h.2.2.2.1 h.2.2.2.2.1 h.2.2.2.2.2.1 h.2.2.2.2.2.2⟩
set_option maxRecDepth 100000 in
set_option maxHeartbeats 1000000 in
theorem csame_any (x y : Cx) (B B' : Nat) (w : World) (t : Bool) (h : CxIn w B x) (h' : CxIn w B' y) (hB : B ≤ w.heap.size) (hB' : B' ≤ w.heap.size) (ht : t = true ↔ x.m = y.m) :
    Calls Tryz.prog 175 #[.agg #[.int .i64 x.kind, .int .u16 x.p.i, .int .u32 x.p.k, .int .u64 x.num, .int .u64 x.vn, .slice x.A x.n x.c, .int .u64 x.x.id, .slice x.x.A x.x.m x.x.c, .slice x.x.B x.x.d x.x.e, .slice x.x.C x.x.f x.x.g], .agg #[.int .i64 y.kind, .int .u16 y.p.i, .int .u32 y.p.k, .int .u64 y.num, .int .u64 y.vn, .slice y.A y.n y.c, .int .u64 y.x.id, .slice y.x.A y.x.m y.x.c, .slice y.x.B y.x.d y.x.e, .slice y.x.C y.x.f y.x.g]] w fun e w' => e = .returned (.bool t) ∧ Below w.heap.size w w' := by
  rw [cm_eq] at ht
  simp only [Cx.m] at ht
  have v0 := (CAt.mk_ w x).alloc (.cells #[.int .i64 y.kind, .int .u16 y.p.i, .int .u32 y.p.k, .int .u64 y.num, .int .u64 y.vn, .slice y.A y.n y.c, .int .u64 y.x.id, .slice y.x.A y.x.m y.x.c, .slice y.x.B y.x.d y.x.e, .slice y.x.C y.x.f y.x.g] 48)
  have v1 := CAt.mk_ (w.alloc (.cells #[.int .i64 x.kind, .int .u16 x.p.i, .int .u32 x.p.k, .int .u64 x.num, .int .u64 x.vn, .slice x.A x.n x.c, .int .u64 x.x.id, .slice x.x.A x.x.m x.x.c, .slice x.x.B x.x.d x.x.e, .slice x.x.C x.x.f x.x.g] 48)) y
  simp only [World.size_alloc] at v1
  have hbz : Below w.heap.size w ((w.alloc (.cells #[.int .i64 x.kind, .int .u16 x.p.i, .int .u32 x.p.k, .int .u64 x.num, .int .u64 x.vn, .slice x.A x.n x.c, .int .u64 x.x.id, .slice x.x.A x.x.m x.x.c, .slice x.x.B x.x.d x.x.e, .slice x.x.C x.x.f x.x.g] 48)).alloc (.cells #[.int .i64 y.kind, .int .u16 y.p.i, .int .u32 y.p.k, .int .u64 y.num, .int .u64 y.vn, .slice y.A y.n y.c, .int .u64 y.x.id, .slice y.x.A y.x.m y.x.c, .slice y.x.B y.x.d y.x.e, .slice y.x.C y.x.f y.x.g] 48)) := ((Below.refl _ _).alloc (Nat.le_refl _) _).alloc (by simp) _
  have ce := equal_any x.A y.A x.n y.n x.c y.c x.l y.l B B' _ (h.bs.below (hbz.mono hB)) (h'.bs.below (hbz.mono hB'))
  obtain ⟨u1, hu1⟩ : ∃ u, u = sameB x.l y.l := ⟨_, rfl⟩
  rw [← hu1] at ce
  obtain ⟨u2, hu2⟩ := bool_of (x.x.v = y.x.v)
  have cv := fun W (hb : Below w.heap.size w W) => vsame_any x.x y.x B B' W u2 (h.vw.below (hb.mono hB)) (h'.vw.below (hb.mono hB')) (Nat.le_trans hB hb.size) (Nat.le_trans hB' hb.size) hu2
  have k1 : u1 = true ↔ x.l = y.l := by rw [hu1]; unfold sameB; rw [decide_eq_true_eq]
  obtain ⟨kind, ⟨i, k, hi, hk⟩, num, vn, A, n, c, l, xv⟩ := x
  obtain ⟨kind2, ⟨i2, k2, hi2, hk2⟩, num2, vn2, A2, n2, c2, l2, yv⟩ := y
  obtain ⟨j0, j1, j2, j3, j4, j5, j6, j7, j8, j9⟩ := v0.cells
  obtain ⟨g0, g1, g2, g3, g4, g5, g6, g7, g8, g9⟩ := v1.cells
  dsimp only at *
  have HT := hide (And.intro ht (And.intro k1 hu2))
  clear ht k1 hu1 hu2 h h' v0 v1 hi hk hi2 hk2
  generalize hw2 : ((w.alloc (.cells #[.int .i64 kind, .int .u16 i, .int .u32 k, .int .u64 num, .int .u64 vn, .slice A n c, .int .u64 xv.id, .slice xv.A xv.m xv.c, .slice xv.B xv.d xv.e, .slice xv.C xv.f xv.g] 48)).alloc (.cells #[.int .i64 kind2, .int .u16 i2, .int .u32 k2, .int .u64 num2, .int .u64 vn2, .slice A2 n2 c2, .int .u64 yv.id, .slice yv.A yv.m yv.c, .slice yv.B yv.d yv.e, .slice yv.C yv.f yv.g] 48)) = w2 at *
  by_cases h0 : kind = kind2
  case neg =>
    have hf : t = false := not_of_iff HT.out.1 (fun e => h0 (by first | exact e.1 | (exact e.1.symm)))
    have HF := hide hf
    have q2 : (kind == kind2) = false := by rw [beq_eq_false_iff_ne]; exact h0
    have q1 : ¬ (kind = kind2) := h0
    clear hf h0
    go_enter Tryz.func175, Tryz.ntmps175
    go_wp2
    go_ret
    exact ⟨ret_bool HF.out.symm, hbz⟩
  subst h0
  by_cases h1 : i = i2
  case neg =>
    have hf : t = false := not_of_iff HT.out.1 (fun e => h1 (by first | exact e.2.1 | (exact e.2.1.symm)))
    have HF := hide hf
    have q1 : ¬ ((i : Int) = (i2 : Int)) := by omega
    have q2 : ((i : Int) == (i2 : Int)) = false := by rw [beq_eq_false_iff_ne]; exact q1
    clear hf h1
    go_enter Tryz.func175, Tryz.ntmps175
    go_wp2
    go_ret
    exact ⟨ret_bool HF.out.symm, hbz⟩
  subst h1
  by_cases h2 : k = k2
  case neg =>
    have hf : t = false := not_of_iff HT.out.1 (fun e => h2 (by first | exact e.2.2.1 | (exact e.2.2.1.symm)))
    have HF := hide hf
    have q1 : ¬ ((k : Int) = (k2 : Int)) := by omega
    have q2 : ((k : Int) == (k2 : Int)) = false := by rw [beq_eq_false_iff_ne]; exact q1
    clear hf h2
    go_enter Tryz.func175, Tryz.ntmps175
    go_wp2
    go_ret
    exact ⟨ret_bool HF.out.symm, hbz⟩
  subst h2
  by_cases h3 : num = num2
  case neg =>
    have hf : t = false := not_of_iff HT.out.1 (fun e => h3 (by first | exact e.2.2.2.1 | (exact e.2.2.2.1.symm)))
    have HF := hide hf
    have q1 : ¬ ((num : Int) = (num2 : Int)) := by omega
    have q2 : ((num : Int) == (num2 : Int)) = false := by rw [beq_eq_false_iff_ne]; exact q1
    clear hf h3
    go_enter Tryz.func175, Tryz.ntmps175
    go_wp2
    go_ret
    exact ⟨ret_bool HF.out.symm, hbz⟩
  subst h3
  by_cases h4 : vn = vn2
  case neg =>
    have hf : t = false := not_of_iff HT.out.1 (fun e => h4 (by first | exact e.2.2.2.2.1 | (exact e.2.2.2.2.1.symm)))
    have HF := hide hf
    have q1 : ¬ ((vn : Int) = (vn2 : Int)) := by omega
    have q2 : ((vn : Int) == (vn2 : Int)) = false := by rw [beq_eq_false_iff_ne]; exact q1
    clear hf h4
    go_enter Tryz.func175, Tryz.ntmps175
    go_wp2
    go_ret
    exact ⟨ret_bool HF.out.symm, hbz⟩
  subst h4
  go_enter Tryz.func175, Tryz.ntmps175
  cases u1
  · have hf : t = false := not_of_iff HT.out.1 (fun e => by have := HT.out.2.1.2 e.2.2.2.2.2.1; cases this)
    have HF := hide hf
    clear hf
    go_wp2_with fail
    refine ce.mono ?_
    rintro e w3 ⟨rfl, rfl⟩
    have hb3 := hbz
    clear hw2
    go_wp2
    go_ret
    exact ⟨ret_bool HF.out.symm, hb3⟩
  · have hf : t = u2 := by
      rw [Bool.eq_iff_iff, HT.out.1, HT.out.2.2]
      exact ⟨fun e => e.2.2.2.2.2.2, fun e => ⟨rfl, rfl, rfl, rfl, rfl, HT.out.2.1.1 rfl, e⟩⟩
    have HF := hide hf
    clear hf
    go_wp2_with fail
    refine ce.mono ?_
    rintro e w3 ⟨rfl, rfl⟩
    have hb3 := hbz
    have cv := cv w2 hb3
    clear hw2 ce
    go_wp2_with fail
    refine cv.mono ?_
    rintro e w4 ⟨rfl, hb2⟩
    have hb4 := hb3.trans (hb2.mono hb3.size)
    go_wp2
    go_ret
    exact ⟨ret_bool HF.out.symm, hb4⟩
set_option maxRecDepth 100000 in
set_option maxHeartbeats 1000000 in
theorem rcsame_any (x y : Cx) (B B' : Nat) (w : World) (t : Bool) (h : CxIn w B x) (h' : CxIn w B' y) (hB : B ≤ w.heap.size) (hB' : B' ≤ w.heap.size) (ht : t = true ↔ x.m = y.m) :
    Calls Tryz.prog 63 #[.agg #[.int .i64 x.kind, .int .u16 x.p.i, .int .u32 x.p.k, .int .u64 x.num, .int .u64 x.vn, .slice x.A x.n x.c, .int .u64 x.x.id, .slice x.x.A x.x.m x.x.c, .slice x.x.B x.x.d x.x.e, .slice x.x.C x.x.f x.x.g], .agg #[.int .i64 y.kind, .int .u16 y.p.i, .int .u32 y.p.k, .int .u64 y.num, .int .u64 y.vn, .slice y.A y.n y.c, .int .u64 y.x.id, .slice y.x.A y.x.m y.x.c, .slice y.x.B y.x.d y.x.e, .slice y.x.C y.x.f y.x.g]] w fun e w' => e = .returned (.bool t) ∧ Below w.heap.size w w' := by
  rw [cm_eq] at ht
  simp only [Cx.m] at ht
  have v0 := (CAt.mk_ w x).alloc (.cells #[.int .i64 y.kind, .int .u16 y.p.i, .int .u32 y.p.k, .int .u64 y.num, .int .u64 y.vn, .slice y.A y.n y.c, .int .u64 y.x.id, .slice y.x.A y.x.m y.x.c, .slice y.x.B y.x.d y.x.e, .slice y.x.C y.x.f y.x.g] 48)
  have v1 := CAt.mk_ (w.alloc (.cells #[.int .i64 x.kind, .int .u16 x.p.i, .int .u32 x.p.k, .int .u64 x.num, .int .u64 x.vn, .slice x.A x.n x.c, .int .u64 x.x.id, .slice x.x.A x.x.m x.x.c, .slice x.x.B x.x.d x.x.e, .slice x.x.C x.x.f x.x.g] 48)) y
  simp only [World.size_alloc] at v1
  have hbz : Below w.heap.size w ((w.alloc (.cells #[.int .i64 x.kind, .int .u16 x.p.i, .int .u32 x.p.k, .int .u64 x.num, .int .u64 x.vn, .slice x.A x.n x.c, .int .u64 x.x.id, .slice x.x.A x.x.m x.x.c, .slice x.x.B x.x.d x.x.e, .slice x.x.C x.x.f x.x.g] 48)).alloc (.cells #[.int .i64 y.kind, .int .u16 y.p.i, .int .u32 y.p.k, .int .u64 y.num, .int .u64 y.vn, .slice y.A y.n y.c, .int .u64 y.x.id, .slice y.x.A y.x.m y.x.c, .slice y.x.B y.x.d y.x.e, .slice y.x.C y.x.f y.x.g] 48)) := ((Below.refl _ _).alloc (Nat.le_refl _) _).alloc (by simp) _
  have ce := same_any x.A y.A x.n y.n x.c y.c x.l y.l B B' _ (h.bs.below (hbz.mono hB)) (h'.bs.below (hbz.mono hB')) (Nat.le_trans h.nc h.room) (Nat.le_trans h'.nc h'.room)
  obtain ⟨u1, hu1⟩ : ∃ u, u = sameB x.l y.l := ⟨_, rfl⟩
  rw [← hu1] at ce
  obtain ⟨u2, hu2⟩ := bool_of (x.x.v = y.x.v)
  have cv := fun W (hb : Below w.heap.size w W) => rvsame_any x.x y.x B B' W u2 (h.vw.below (hb.mono hB)) (h'.vw.below (hb.mono hB')) (Nat.le_trans hB hb.size) (Nat.le_trans hB' hb.size) hu2
  have k1 : u1 = true ↔ x.l = y.l := by rw [hu1]; unfold sameB; rw [decide_eq_true_eq]
  obtain ⟨kind, ⟨i, k, hi, hk⟩, num, vn, A, n, c, l, xv⟩ := x
  obtain ⟨kind2, ⟨i2, k2, hi2, hk2⟩, num2, vn2, A2, n2, c2, l2, yv⟩ := y
  obtain ⟨j0, j1, j2, j3, j4, j5, j6, j7, j8, j9⟩ := v0.cells
  obtain ⟨g0, g1, g2, g3, g4, g5, g6, g7, g8, g9⟩ := v1.cells
  dsimp only at *
  have HT := hide (And.intro ht (And.intro k1 hu2))
  clear ht k1 hu1 hu2 h h' v0 v1 hi hk hi2 hk2
  generalize hw2 : ((w.alloc (.cells #[.int .i64 kind, .int .u16 i, .int .u32 k, .int .u64 num, .int .u64 vn, .slice A n c, .int .u64 xv.id, .slice xv.A xv.m xv.c, .slice xv.B xv.d xv.e, .slice xv.C xv.f xv.g] 48)).alloc (.cells #[.int .i64 kind2, .int .u16 i2, .int .u32 k2, .int .u64 num2, .int .u64 vn2, .slice A2 n2 c2, .int .u64 yv.id, .slice yv.A yv.m yv.c, .slice yv.B yv.d yv.e, .slice yv.C yv.f yv.g] 48)) = w2 at *
  by_cases h0 : kind = kind2
  case neg =>
    have hf : t = false := not_of_iff HT.out.1 (fun e => h0 (by first | exact e.1 | (exact e.1.symm)))
    have HF := hide hf
    have q2 : (kind == kind2) = false := by rw [beq_eq_false_iff_ne]; exact h0
    have q1 : ¬ (kind = kind2) := h0
    clear hf h0
    go_enter Tryz.func63, Tryz.ntmps63
    go_wp2
    go_ret
    exact ⟨ret_bool HF.out.symm, hbz⟩
  subst h0
  by_cases h1 : i = i2
  case neg =>
    have hf : t = false := not_of_iff HT.out.1 (fun e => h1 (by first | exact e.2.1 | (exact e.2.1.symm)))
    have HF := hide hf
    have q1 : ¬ ((i : Int) = (i2 : Int)) := by omega
    have q2 : ((i : Int) == (i2 : Int)) = false := by rw [beq_eq_false_iff_ne]; exact q1
    clear hf h1
    go_enter Tryz.func63, Tryz.ntmps63
    go_wp2
    go_ret
    exact ⟨ret_bool HF.out.symm, hbz⟩
  subst h1
  by_cases h2 : k = k2
  case neg =>
    have hf : t = false := not_of_iff HT.out.1 (fun e => h2 (by first | exact e.2.2.1 | (exact e.2.2.1.symm)))
    have HF := hide hf
    have q1 : ¬ ((k : Int) = (k2 : Int)) := by omega
    have q2 : ((k : Int) == (k2 : Int)) = false := by rw [beq_eq_false_iff_ne]; exact q1
    clear hf h2
    go_enter Tryz.func63, Tryz.ntmps63
    go_wp2
    go_ret
    exact ⟨ret_bool HF.out.symm, hbz⟩
  subst h2
  by_cases h3 : num = num2
  case neg =>
    have hf : t = false := not_of_iff HT.out.1 (fun e => h3 (by first | exact e.2.2.2.1 | (exact e.2.2.2.1.symm)))
    have HF := hide hf
    have q1 : ¬ ((num : Int) = (num2 : Int)) := by omega
    have q2 : ((num : Int) == (num2 : Int)) = false := by rw [beq_eq_false_iff_ne]; exact q1
    clear hf h3
    go_enter Tryz.func63, Tryz.ntmps63
    go_wp2
    go_ret
    exact ⟨ret_bool HF.out.symm, hbz⟩
  subst h3
  by_cases h4 : vn = vn2
  case neg =>
    have hf : t = false := not_of_iff HT.out.1 (fun e => h4 (by first | exact e.2.2.2.2.1 | (exact e.2.2.2.2.1.symm)))
    have HF := hide hf
    have q1 : ¬ ((vn : Int) = (vn2 : Int)) := by omega
    have q2 : ((vn : Int) == (vn2 : Int)) = false := by rw [beq_eq_false_iff_ne]; exact q1
    clear hf h4
    go_enter Tryz.func63, Tryz.ntmps63
    go_wp2
    go_ret
    exact ⟨ret_bool HF.out.symm, hbz⟩
  subst h4
  go_enter Tryz.func63, Tryz.ntmps63
  cases u1
  · have hf : t = false := not_of_iff HT.out.1 (fun e => by have := HT.out.2.1.2 e.2.2.2.2.2.1; cases this)
    have HF := hide hf
    clear hf
    go_wp2_with fail
    refine ce.mono ?_
    rintro e w3 ⟨rfl, hd⟩
    have hb3 := hbz.trans ((drawn_below hd).mono hbz.size)
    clear hw2
    go_wp2
    go_ret
    exact ⟨ret_bool HF.out.symm, hb3⟩
  · have hf : t = u2 := by
      rw [Bool.eq_iff_iff, HT.out.1, HT.out.2.2]
      exact ⟨fun e => e.2.2.2.2.2.2, fun e => ⟨rfl, rfl, rfl, rfl, rfl, HT.out.2.1.1 rfl, e⟩⟩
    have HF := hide hf
    clear hf
    go_wp2_with fail
    refine ce.mono ?_
    rintro e w3 ⟨rfl, hd⟩
    have hb1 : Below w2.heap.size w2 w3 := drawn_below hd
    have hb3 := hbz.trans (hb1.mono hbz.size)
    replace j0 := cellL j0 hb1
    replace j1 := cellL j1 hb1
    replace j2 := cellL j2 hb1
    replace j3 := cellL j3 hb1
    replace j4 := cellL j4 hb1
    replace j5 := cellL j5 hb1
    replace j6 := cellL j6 hb1
    replace j7 := cellL j7 hb1
    replace j8 := cellL j8 hb1
    replace j9 := cellL j9 hb1
    replace g0 := cellL g0 hb1
    replace g1 := cellL g1 hb1
    replace g2 := cellL g2 hb1
    replace g3 := cellL g3 hb1
    replace g4 := cellL g4 hb1
    replace g5 := cellL g5 hb1
    replace g6 := cellL g6 hb1
    replace g7 := cellL g7 hb1
    replace g8 := cellL g8 hb1
    replace g9 := cellL g9 hb1
    have cv := cv w3 hb3
    clear hw2 hd ce hb1
    go_wp2_with fail
    refine cv.mono ?_
    rintro e w4 ⟨rfl, hb2⟩
    have hb4 := hb3.trans (hb2.mono hb3.size)
    go_wp2
    go_ret
    exact ⟨ret_bool HF.out.symm, hb4⟩
end Go.Proofs.YtjmkecaljkcoiaaGreatDoor
