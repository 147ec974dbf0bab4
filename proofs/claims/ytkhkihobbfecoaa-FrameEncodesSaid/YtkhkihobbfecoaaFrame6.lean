/-
  Frames: the contracts of a reader's steps.
-/
import Derived.Test.YtkhkihobbfecoaaFrame1
import Derived.StillTailTactics
import Derived.BigQuiet
namespace Go.Proofs.Ytkhkihobbfecoaa
open Go.RowKit
set_option linter.unusedVariables false
set_option linter.unusedSimpArgs false

set_option maxRecDepth 100000 in
theorem takeP_any (A : Option Addr) (n c : Nat) (l : List UInt8) (B i k u t : Nat) (w : World) (hA : Bs w B A n l) (hB : B ≤ w.heap.size) (hn : n ≤ c) (hc : c ≤ maxLen) (hg : pidG l = (i, k, u, t)) :
    Calls Try.prog 44 #[.slice A n c] w fun e w' => ∃ A' c', e = .returned (.tuple #[.agg #[.int .u16 (i : Int), .int .u32 (k : Int)], .slice A' (n - u) c', .int .i64 (t : Int)]) ∧
      Bs w' B A' (n - u) (l.drop u) ∧ n - u ≤ c' ∧ c' ≤ maxLen ∧ Below w.heap.size w w' := by
  have c1 := fun W (h : Bs W B A n l) (h1 : B ≤ W.heap.size) => gpid_any A n c l B W h h1 hn hc
  have hbd := (pidG_bds l).2.2.1
  rw [hg, hA.len] at hbd
  simp only at hbd
  unfold GetsP at c1
  rw [hg] at c1
  simp only at c1
  have hcut := fun W (h : Bs W B A n l) => h.cut hbd hn
  have hA1 := hA.alloc hB (.cells #[.int .u16 0, .int .u32 0] 25)
  have HC := hide hcut
  unfold maxLen at hc
  clear hg hcut
  by_cases hcu : c = u
  · obtain rfl : n = u := by omega
    subst hcu
    go_enter Try.func44, Try.ntmps44
    go_wp2_with fail
    refine (c1 _ hA1 (by simp; omega)).mono ?_
    rintro e w1 ⟨rfl, hb1⟩
    clear c1
    have e0 : w1.cell? ⟨w.heap.size, 0, none⟩ = some (.int .u16 0) := (hb1.cell (by simp)).trans (by go_simp)
    have e1 : w1.cell? ⟨w.heap.size, 1, none⟩ = some (.int .u32 0) := (hb1.cell (by simp)).trans (by go_simp)
    have z0 : ∀ x, w1.frozen? ⟨w.heap.size, x, none⟩ = false := fun x => (hb1.frozen (by simp)).trans (by go_simp)
    have lt1 : w.heap.size < w1.heap.size := by have := hb1.size; simp at this; omega
    have hbx : Below w.heap.size w w1 := ((Below.refl _ _).alloc (Nat.le_refl _) _).trans (hb1.mono (by simp))
    go_wp2
    have f0 : (w1.alloc (.cells #[.int .u16 (i : Int), .int .u32 (k : Int)] 25)).cell? ⟨w1.heap.size, 0, none⟩ = some (.int .u16 (i : Int)) := by go_simp
    have f1 : (w1.alloc (.cells #[.int .u16 (i : Int), .int .u32 (k : Int)] 25)).cell? ⟨w1.heap.size, 1, none⟩ = some (.int .u32 (k : Int)) := by go_simp
    have f2 : (w1.alloc (.cells #[.int .u16 (i : Int), .int .u32 (k : Int)] 25)).cell? ⟨w.heap.size, 0, none⟩ = some (.int .u16 0) := (World.cell?_alloc_lt _ _ _ lt1).trans e0
    have f3 : (w1.alloc (.cells #[.int .u16 (i : Int), .int .u32 (k : Int)] 25)).cell? ⟨w.heap.size, 1, none⟩ = some (.int .u32 0) := (World.cell?_alloc_lt _ _ _ lt1).trans e1
    have hbz : Below w.heap.size w (w1.alloc (.cells #[.int .u16 (i : Int), .int .u32 (k : Int)] 25)) := hbx.alloc (by omega) _
    have z1 : ∀ x, (w1.alloc (.cells #[.int .u16 (i : Int), .int .u32 (k : Int)] 25)).frozen? ⟨w.heap.size, x, none⟩ = false := fun x => (World.frozen?_alloc_old _ _ _ (by simp; omega)).trans (z0 x)
    generalize (w1.alloc (.cells #[.int .u16 (i : Int), .int .u32 (k : Int)] 25)) = w2 at f0 f1 f2 f3 hbz z1 ⊢
    have s0 : ∀ (W : World) (v : Value) (x y : Nat), (W.setCell ⟨w.heap.size, x, none⟩ v).cell? ⟨w1.heap.size, y, none⟩ = W.cell? ⟨w1.heap.size, y, none⟩ := fun W v x y => World.cell?_setCell_other W _ _ v (fun e => by injection e; omega)
    clear e0 e1 z0 hb1
    go_region_held3 (fun W => W.cell? ⟨w1.heap.size, 0, none⟩ = some (.int .u16 (i : Int)) ∧ W.cell? ⟨w1.heap.size, 1, none⟩ = some (.int .u32 (k : Int))) (go_keep) (fail)
    clear s0
    obtain ⟨W, hW⟩ : ∃ W, W = ((w2.setCell ⟨w.heap.size, 0, none⟩ (.int .u16 (i : Int))).setCell ⟨w.heap.size, 1, none⟩ (.int .u32 (k : Int))).drew := ⟨_, rfl⟩
    have r0 : W.cell? ⟨w.heap.size, 0, none⟩ = some (.int .u16 (i : Int)) := by rw [hW]; go_simp
    have r1 : W.cell? ⟨w.heap.size, 1, none⟩ = some (.int .u32 (k : Int)) := by rw [hW]; go_simp
    have hbW : Below w.heap.size w W := by rw [hW]; exact ((hbz.setCell (p := ⟨w.heap.size, 0, none⟩) (Nat.le_refl _) _).setCell (p := ⟨w.heap.size, 1, none⟩) (Nat.le_refl _) _).drew
    rw [← hW]
    have hq := HC.out W (hA.below (hbW.mono hB))
    simp only [if_true, Nat.sub_self] at hq
    clear hW f0 f1 f2 f3 z1 hbz HC hA hA1
    go_wp2
    refine bodyPost_ret (v := .tuple #[.agg #[.int .u16 (i : Int), .int .u32 (k : Int)], .slice A 0 0, .int .i64 (t : Int)]) (by simp [results, Try.results44, go_sem, r0, r1]) rfl ⟨A, 0, by rw [Nat.sub_self], by rw [Nat.sub_self]; exact hq, by omega, by unfold maxLen; omega, hbW⟩
  · have hlt : u < c := by omega
    go_enter Try.func44, Try.ntmps44
    go_wp2_with fail
    refine (c1 _ hA1 (by simp; omega)).mono ?_
    rintro e w1 ⟨rfl, hb1⟩
    clear c1
    have e0 : w1.cell? ⟨w.heap.size, 0, none⟩ = some (.int .u16 0) := (hb1.cell (by simp)).trans (by go_simp)
    have e1 : w1.cell? ⟨w.heap.size, 1, none⟩ = some (.int .u32 0) := (hb1.cell (by simp)).trans (by go_simp)
    have z0 : ∀ x, w1.frozen? ⟨w.heap.size, x, none⟩ = false := fun x => (hb1.frozen (by simp)).trans (by go_simp)
    have lt1 : w.heap.size < w1.heap.size := by have := hb1.size; simp at this; omega
    have hbx : Below w.heap.size w w1 := ((Below.refl _ _).alloc (Nat.le_refl _) _).trans (hb1.mono (by simp))
    go_wp2
    have f0 : (w1.alloc (.cells #[.int .u16 (i : Int), .int .u32 (k : Int)] 25)).cell? ⟨w1.heap.size, 0, none⟩ = some (.int .u16 (i : Int)) := by go_simp
    have f1 : (w1.alloc (.cells #[.int .u16 (i : Int), .int .u32 (k : Int)] 25)).cell? ⟨w1.heap.size, 1, none⟩ = some (.int .u32 (k : Int)) := by go_simp
    have f2 : (w1.alloc (.cells #[.int .u16 (i : Int), .int .u32 (k : Int)] 25)).cell? ⟨w.heap.size, 0, none⟩ = some (.int .u16 0) := (World.cell?_alloc_lt _ _ _ lt1).trans e0
    have f3 : (w1.alloc (.cells #[.int .u16 (i : Int), .int .u32 (k : Int)] 25)).cell? ⟨w.heap.size, 1, none⟩ = some (.int .u32 0) := (World.cell?_alloc_lt _ _ _ lt1).trans e1
    have hbz : Below w.heap.size w (w1.alloc (.cells #[.int .u16 (i : Int), .int .u32 (k : Int)] 25)) := hbx.alloc (by omega) _
    have z1 : ∀ x, (w1.alloc (.cells #[.int .u16 (i : Int), .int .u32 (k : Int)] 25)).frozen? ⟨w.heap.size, x, none⟩ = false := fun x => (World.frozen?_alloc_old _ _ _ (by simp; omega)).trans (z0 x)
    generalize (w1.alloc (.cells #[.int .u16 (i : Int), .int .u32 (k : Int)] 25)) = w2 at f0 f1 f2 f3 hbz z1 ⊢
    have s0 : ∀ (W : World) (v : Value) (x y : Nat), (W.setCell ⟨w.heap.size, x, none⟩ v).cell? ⟨w1.heap.size, y, none⟩ = W.cell? ⟨w1.heap.size, y, none⟩ := fun W v x y => World.cell?_setCell_other W _ _ v (fun e => by injection e; omega)
    clear e0 e1 z0 hb1
    go_region_held3 (fun W => W.cell? ⟨w1.heap.size, 0, none⟩ = some (.int .u16 (i : Int)) ∧ W.cell? ⟨w1.heap.size, 1, none⟩ = some (.int .u32 (k : Int))) (go_keep) (fail)
    clear s0
    obtain ⟨W, hW⟩ : ∃ W, W = ((w2.setCell ⟨w.heap.size, 0, none⟩ (.int .u16 (i : Int))).setCell ⟨w.heap.size, 1, none⟩ (.int .u32 (k : Int))).drew := ⟨_, rfl⟩
    have r0 : W.cell? ⟨w.heap.size, 0, none⟩ = some (.int .u16 (i : Int)) := by rw [hW]; go_simp
    have r1 : W.cell? ⟨w.heap.size, 1, none⟩ = some (.int .u32 (k : Int)) := by rw [hW]; go_simp
    have hbW : Below w.heap.size w W := by rw [hW]; exact ((hbz.setCell (p := ⟨w.heap.size, 0, none⟩) (Nat.le_refl _) _).setCell (p := ⟨w.heap.size, 1, none⟩) (Nat.le_refl _) _).drew
    rw [← hW]
    have hq := HC.out W (hA.below (hbW.mono hB))
    rw [if_neg hcu] at hq
    clear hW f0 f1 f2 f3 z1 hbz HC hA hA1
    go_wp2
    refine bodyPost_ret (v := .tuple #[.agg #[.int .u16 (i : Int), .int .u32 (k : Int)], .slice (Option.map (fun x => x.add u) A) (n - u) (c - u), .int .i64 (t : Int)]) (by simp [results, Try.results44, go_sem, r0, r1]) rfl ⟨_, _, rfl, hq, by omega, by unfold maxLen; omega, hbW⟩
set_option maxRecDepth 100000 in
theorem takeN_any (A : Option Addr) (n c : Nat) (l : List UInt8) (B x u t : Nat) (w : World) (hA : Bs w B A n l) (hB : B ≤ w.heap.size) (hn : n ≤ c) (hc : c ≤ maxLen) (hg : getF l = (x, u, t)) :
    Calls Try.prog 45 #[.slice A n c] w fun e w' => ∃ A' c', e = .returned (.tuple #[.int .u64 (x : Int), .slice A' (n - u) c', .int .i64 (t : Int)]) ∧
      Bs w' B A' (n - u) (l.drop u) ∧ n - u ≤ c' ∧ c' ≤ maxLen ∧ Below w.heap.size w w' := by
  have c1 := fun W (h : Bs W B A n l) => getShort_any A n c l B W h (Nat.le_trans hn hc)
  have hbd := (getF_bds l).2.1
  rw [hg, hA.len] at hbd
  simp only at hbd
  rw [hg] at c1
  simp only at c1
  have hcut := fun W (h : Bs W B A n l) => h.cut hbd hn
  have HC := hide hcut
  unfold maxLen at hc
  clear hg hcut
  by_cases hcu : c = u
  · obtain rfl : n = u := by omega
    subst hcu
    go_enter Try.func45, Try.ntmps45
    go_wp2_with fail
    refine (c1 _ hA).mono ?_
    rintro e w1 ⟨rfl, rfl⟩
    clear c1
    go_wp2
    go_quiet (fail)
    go_wp2
    go_ret3
    have hq := HC.out (w.drewN nq) (hA.drewN nq)
    simp only [if_true, Nat.sub_self] at hq
    exact ⟨A, 0, by rw [Nat.sub_self]; rfl, by rw [Nat.sub_self]; exact hq, by omega, by unfold maxLen; omega, below_drewN (Below.refl _ _) _⟩
  · have hlt : u < c := by omega
    go_enter Try.func45, Try.ntmps45
    go_wp2_with fail
    refine (c1 _ hA).mono ?_
    rintro e w1 ⟨rfl, rfl⟩
    clear c1
    go_wp2
    go_quiet (fail)
    go_wp2
    go_ret3
    have hq := HC.out (w.drewN nq) (hA.drewN nq)
    rw [if_neg hcu] at hq
    exact ⟨_, _, rfl, hq, by omega, by unfold maxLen; omega, below_drewN (Below.refl _ _) _⟩
end Go.Proofs.Ytkhkihobbfecoaa
