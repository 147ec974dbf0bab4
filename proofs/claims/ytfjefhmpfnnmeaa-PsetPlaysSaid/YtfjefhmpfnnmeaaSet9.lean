/-
  Sets of processes: List, and the document's example.
-/
import Derived.Test.YtfjefhmpfnnmeaaSet8
import Derived.Test.YtfjefhmpfnnmeaaSort5
namespace Go.Proofs.Ytfjefhmpfnnmeaa
open Go.RowKit Go.Maps
set_option linter.unusedVariables false
set_option linter.unusedSimpArgs false

theorem pSorts : PSorts := fun A n c l B w hA hB hn => psort_any A n c l B w hA hB hn
theorem slist_any (b : Nat) (mg : Option Nat) (acc : List Pr) (w : World) (h : SetAt w b mg acc) (ha : acc.length ≤ 1000000) :
    Calls Try.prog 21 #[.pointer (some ⟨b, 0, none⟩)] w (MakesP w (sortP acc)) := slist_with pSorts b mg acc w h ha
/-- A row that is written out. -/
theorem es_cells (w : World) (cs : Array Value) (l : List Pr) (T : TypeId) (h : cs.toList = ec prC l) : Es prC (w.alloc (.cells cs T)) (w.heap.size + 1) (some ⟨w.heap.size, 0, none⟩) l.length l := by
  refine ⟨rfl, fun _ => ⟨_, rfl, Nat.lt_succ_self _, fun j v hv => ?_⟩⟩
  rw [← h] at hv
  have hb := heap_alloc_new w (.cells cs T)
  have e : (⟨w.heap.size, 0, none⟩ : Addr).add j = ⟨w.heap.size, j, none⟩ := by
    unfold Addr.add
    by_cases hj : j = 0 <;> simp [hj]
  rw [e]
  simp only [World.cell?, hb]
  simp at hv
  simp [hv]
def p21 : Pr := ⟨2, 1, by decide, by decide⟩
def p31 : Pr := ⟨3, 1, by decide, by decide⟩
def p41 : Pr := ⟨4, 1, by decide, by decide⟩
set_option maxRecDepth 100000 in
theorem awake4_any (w : World) :
    Calls Try.prog 8 #[] w fun e w' => e = .returned (.bool true) ∧ Below w.heap.size w w' := by
  have h0 := es_cells w #[.int .u16 4, .int .u32 1, .int .u16 2, .int .u32 1] [p41, p21] 32 rfl
  have cn := snew_any (some ⟨w.heap.size, 0, none⟩) 2 2 [p41, p21] (w.heap.size + 1) _ h0 (by simp) (by decide)
  have hb0 := (Below.refl _ w).alloc (Nat.le_refl _) (.cells #[.int .u16 4, .int .u32 1, .int .u16 2, .int .u32 1] 32)
  have hz0 := hb0.size
  rw [show dedup [p41, p21] = [p41, p21] from by decide] at cn
  have ca := fun b mg W h => sadd_any b mg [p41, p21] p31 W h (by decide)
  have cb := fun b mg W h => sadd_any b mg [p41, p21, p31] p31 W h (by decide)
  unfold AddsTo at ca cb
  rw [show dedS [p41, p21] p31 = [p41, p21, p31] from by decide, show decide (p31 ∈ [p41, p21]) = false from by decide] at ca
  rw [show dedS [p41, p21, p31] p31 = [p41, p21, p31] from by decide, show decide (p31 ∈ [p41, p21, p31]) = true from by decide] at cb
  have cl := fun b mg W h => slist_any b mg [p41, p21, p31] W h (by decide)
  rw [show sortP [p41, p21, p31] = [p21, p31, p41] from by decide] at cl
  go_enter Try.func8, Try.ntmps8
  go_wp2_with fail
  refine cn.mono ?_
  rintro e w1 ⟨b, mg, rfl, hs, hbb, hbm, hb⟩
  have hb1 := hb0.trans (hb.mono hz0)
  have hbb1 : w.heap.size ≤ b := Nat.le_trans hz0 hbb
  have hbm1 : ∀ g, mg = some g → w.heap.size ≤ g := fun g hg => Nat.le_trans hz0 (hbm g hg)
  clear cn h0 hb0 hb hz0 hbb hbm
  go_wp2_with fail
  refine (ca b mg w1 hs).mono ?_
  rintro e w2 ⟨rfl, mg2, hs2, ht2, hm2⟩
  have hz1 := hb1.size
  have hb2 := hb1.trans (ht2.below hz1 hbb1 hbm1)
  have hbm2 := hm2.base hbm1 hz1
  clear ca hs ht2 hm2 hbm1 hb1 hz1
  go_wp2_with fail
  refine (cb b mg2 w2 hs2).mono ?_
  rintro e w3 ⟨rfl, mg3, hs3, ht3, hm3⟩
  have hb3 := hb2.trans (ht3.below hb2.size hbb1 hbm2)
  clear cb hs2 ht3 hm3 hbm2 hb2
  go_wp2_with fail
  refine (cl b mg3 w3 hs3).mono ?_
  rintro e w4 ⟨A4, c4, rfl, ho, hb⟩
  have hb4 := hb3.trans (hb.mono hb3.size)
  have he4 := OwnE.es prOk ho
  have hz4 := hb4.size
  clear cl hs3 hb3 hb ho
  have e9 := es_cells w4 #[.int .u16 2, .int .u32 1, .int .u16 3, .int .u32 1, .int .u16 4, .int .u32 1] [p21, p31, p41] 32 rfl
  have cm := samep_eq A4 (some ⟨w4.heap.size, 0, none⟩) 3 3 c4 3 [p21, p31, p41] [p21, p31, p41] _ _ _ (he4.alloc (Nat.le_refl _) _) e9 (by decide) rfl
  have hb5 := hb4.alloc hz4 (.cells #[.int .u16 2, .int .u32 1, .int .u16 3, .int .u32 1, .int .u16 4, .int .u32 1] 32)
  clear he4 e9 hb4
  go_wp2_with fail
  refine cm.mono ?_
  rintro e w5 ⟨rfl, hd⟩
  have hb6 := hb5.trans (drawn_below hd)
  clear cm hd hb5
  go_wp2
  go_ret
  exact ⟨rfl, hb6⟩
end Go.Proofs.Ytfjefhmpfnnmeaa
