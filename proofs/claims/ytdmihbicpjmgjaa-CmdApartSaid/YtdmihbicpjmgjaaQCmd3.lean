/-
  Layer 9: Check; has a command more than is looked at?
-/
import Derived.Test.YtdmihbicpjmgjaaQCmd2
namespace Go.Proofs.Ytdmihbicpjmgjaa
open Go.RowKit Go.Maps
set_option linter.unusedVariables false
set_option linter.unusedSimpArgs false

theorem ckE_no (n : Nat) : ckE false n = 1 := rfl
theorem ckE_long {n : Nat} (h : 200 < n) : ckE true n = 14 := by simp [ckE, h]
theorem ckE_ok {n : Nat} (h : ¬ 200 < n) : ckE true n = 0 := by simp [ckE, h]
set_option maxRecDepth 100000 in
theorem check9_any (y : Cx) (B : Nat) (w : World) (t : Bool) (h : CxIn w B y) (hs : VSmall y.x) (hB : B ≤ w.heap.size) (ht : t = true ↔ ButLen y.m) :
    Calls Try.prog 21 #[.agg #[.int .i64 y.kind, .int .u16 (y.p.i : Int), .int .u32 (y.p.k : Int), .int .u64 (y.num : Int), .int .u64 (y.vn : Int), .slice y.A y.n y.c, .int .u64 (y.x.id : Int), .slice y.x.A y.x.m y.x.c, .slice y.x.B y.x.d y.x.e, .slice y.x.C y.x.f y.x.g]] w fun e w' => e = .returned (.int .i64 (ckE t y.n)) ∧ Below w.heap.size w w' := by
  have hbz : Below w.heap.size w (w.alloc (.cells #[.int .i64 y.kind, .int .u16 (y.p.i : Int), .int .u32 (y.p.k : Int), .int .u64 (y.num : Int), .int .u64 (y.vn : Int), .slice y.A y.n y.c, .int .u64 (y.x.id : Int), .slice y.x.A y.x.m y.x.c, .slice y.x.B y.x.d y.x.e, .slice y.x.C y.x.f y.x.g] 33)) := (Below.refl _ _).alloc (Nat.le_refl _) _
  have v0 := CAt.mk_ w y
  have cm := mbf_any y B (w.alloc (.cells #[.int .i64 y.kind, .int .u16 (y.p.i : Int), .int .u32 (y.p.k : Int), .int .u64 (y.num : Int), .int .u64 (y.vn : Int), .slice y.A y.n y.c, .int .u64 (y.x.id : Int), .slice y.x.A y.x.m y.x.c, .slice y.x.B y.x.d y.x.e, .slice y.x.C y.x.f y.x.g] 33)) t (h.below (hbz.mono hB)) hs (Nat.le_trans hB hbz.size) ht
  clear h ht
  obtain ⟨kind, p, num, vn, A, n, c, l, xv⟩ := y
  obtain ⟨j0, j1, j2, j3, j4, j5, j6, j7, j8, j9⟩ := v0.cells
  dsimp only at *
  generalize hw1 : w.alloc (.cells #[.int .i64 kind, .int .u16 (p.i : Int), .int .u32 (p.k : Int), .int .u64 (num : Int), .int .u64 (vn : Int), .slice A n c, .int .u64 (xv.id : Int), .slice xv.A xv.m xv.c, .slice xv.B xv.d xv.e, .slice xv.C xv.f xv.g] 33) = w1 at *
  go_enter Try.func21, Try.ntmps21
  cases t
  · rw [ckE_no]
    go_wp2_with fail
    refine cm.mono ?_
    rintro e w2 ⟨rfl, hb⟩
    have hb2 := hbz.trans (hb.mono hbz.size)
    clear hw1 cm
    go_wp2
    go_ret
    exact ⟨rfl, hb2⟩
  · go_wp2_with fail
    refine cm.mono ?_
    rintro e w2 ⟨rfl, hb⟩
    have hb2 := hbz.trans (hb.mono hbz.size)
    have v2 := v0.later hb
    clear hw1 cm v0 j0 j1 j2 j3 j4 j5 j6 j7 j8 j9
    obtain ⟨j0, j1, j2, j3, j4, j5, j6, j7, j8, j9⟩ := v2.cells
    dsimp only at j0 j1 j2 j3 j4 j5 j6 j7 j8 j9
    by_cases hn : 200 < n
    · have HN := hide (ckE_long hn)
      have z1 : decide ((200 : Int) < (n : Int)) = true := decide_eq_true (by omega)
      clear hn
      go_wp2
      go_ret
      exact ⟨ret_int HN.out.symm, hb2⟩
    · have HN := hide (ckE_ok hn)
      have z1 : decide ((200 : Int) < (n : Int)) = false := decide_eq_false (by omega)
      clear hn
      go_wp2
      go_ret
      exact ⟨ret_int HN.out.symm, hb2⟩
def Great9P (w : World) (y : Cx) (e : Ending) (w' : World) : Prop := ∃ b : Bool, e = .returned (.bool b) ∧ (b = false → CSmall y) ∧ Below w.heap.size w w'
set_option maxRecDepth 100000 in
theorem great9_any (y : Cx) (B : Nat) (w : World) (h : CxIn w B y) (hB : B ≤ w.heap.size) :
    Calls Try.prog 6 #[.agg #[.int .i64 y.kind, .int .u16 (y.p.i : Int), .int .u32 (y.p.k : Int), .int .u64 (y.num : Int), .int .u64 (y.vn : Int), .slice y.A y.n y.c, .int .u64 (y.x.id : Int), .slice y.x.A y.x.m y.x.c, .slice y.x.B y.x.d y.x.e, .slice y.x.C y.x.f y.x.g]] w (Great9P w y) := by
  have hbz : Below w.heap.size w (w.alloc (.cells #[.int .i64 y.kind, .int .u16 (y.p.i : Int), .int .u32 (y.p.k : Int), .int .u64 (y.num : Int), .int .u64 (y.vn : Int), .slice y.A y.n y.c, .int .u64 (y.x.id : Int), .slice y.x.A y.x.m y.x.c, .slice y.x.B y.x.d y.x.e, .slice y.x.C y.x.f y.x.g] 33)) := (Below.refl _ _).alloc (Nat.le_refl _) _
  have v0 := CAt.mk_ w y
  have cg := great8_any y.x B (w.alloc (.cells #[.int .i64 y.kind, .int .u16 (y.p.i : Int), .int .u32 (y.p.k : Int), .int .u64 (y.num : Int), .int .u64 (y.vn : Int), .slice y.A y.n y.c, .int .u64 (y.x.id : Int), .slice y.x.A y.x.m y.x.c, .slice y.x.B y.x.d y.x.e, .slice y.x.C y.x.f y.x.g] 33)) (h.vw.below (hbz.mono hB)) (Nat.le_trans hB hbz.size)
  clear h
  unfold Great8P at cg
  obtain ⟨j0, j1, j2, j3, j4, j5, j6, j7, j8, j9⟩ := v0.cells
  by_cases hn : 400 < y.n
  · have z1 : decide ((400 : Int) < (y.n : Int)) = true := decide_eq_true (by omega)
    clear hn
    go_enter Try.func6, Try.ntmps6
    go_wp2
    go_ret
    exact ⟨true, rfl, (fun h => by cases h), hbz⟩
  · have z1 : decide ((400 : Int) < (y.n : Int)) = false := decide_eq_false (by omega)
    have hn2 : y.n ≤ 400 := by omega
    have HN := hide hn2
    clear hn hn2
    go_enter Try.func6, Try.ntmps6
    go_wp2_with fail
    refine cg.mono ?_
    rintro e w2 ⟨gb, rfl, hsm, hb⟩
    have hb2 := hbz.trans (hb.mono hbz.size)
    have HS := hide hsm
    clear hsm
    go_wp2
    go_ret
    exact ⟨gb, rfl, fun h => ⟨HN.out, HS.out h⟩, hb2⟩
end Go.Proofs.Ytdmihbicpjmgjaa
