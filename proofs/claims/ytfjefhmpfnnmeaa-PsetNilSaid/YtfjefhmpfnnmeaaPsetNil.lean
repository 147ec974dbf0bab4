/-
  The law choraguslaw04.PsetNil answers true, and does not panic, for every argument that its row allows. Conditions: none but the row's own.
-/
import Derived.Test.YtfjefhmpfnnmeaaRows
import Derived.WalkKit
import Derived.ProofKit
import Derived.OpenShut
import Derived.ShutString
import Derived.ChangeOld
import Derived.Below
import Derived.Test.YtfjefhmpfnnmeaaOpen
import Derived.Test.YtfjefhmpfnnmeaaOpenP
import Derived.Test.YtfjefhmpfnnmeaaSet9
namespace Go.Proofs.Ytfjefhmpfnnmeaa.psetNil
open Go.ChangeShapes Go.WideShapes Go.ChangeAt Go.RowKit
open Go.ChangeMaps (open_string shut_string)
set_option linter.unusedVariables false
set_option linter.unusedSimpArgs false

set_option maxRecDepth 100000 in
theorem walk (i d : Nat) (A : Option Addr) (n c : Nat) (l : List Pr) (w : World) (hi : i < 65536) (hd : d < 4294967296) (w0 : Ps0 w A n c l) :
    Calls Try.prog 6 #[.agg #[.int .u16 (i : Int), .int .u32 (d : Int)], .slice A n c] w fun e w' => e = .returned (.bool true) ∧ Below w.heap.size w w' := by
  obtain ⟨hA, hnc, hcm⟩ := w0
  unfold maxLen at hcm
  have hb0 : Below w.heap.size w (w.alloc (.cells #[.int .u16 (i : Int), .int .u32 (d : Int)] 32)) := (Below.refl _ _).alloc (Nat.le_refl _) _
  have hz0 : w.heap.size + 1 ≤ (w.alloc (.cells #[.int .u16 (i : Int), .int .u32 (d : Int)] 32)).heap.size := by simp
  by_cases h6 : 60 < n
  · go_enter Try.func6, Try.ntmps6
    go_wp2_with fail
    refine (awake4_any _).mono ?_
    rintro e w' ⟨rfl, hb⟩
    have hbz := hb0.trans (hb.mono hb0.size)
    clear hb hb0
    go_wp2
    go_ret
    exact ⟨rfl, hbz⟩
  · have f0 : (w.alloc (.cells #[.int .u16 (i : Int), .int .u32 (d : Int)] 32)).cell? ⟨w.heap.size, 0, none⟩ = some (.int .u16 (i : Int)) := by go_simp
    have f1 : (w.alloc (.cells #[.int .u16 (i : Int), .int .u32 (d : Int)] 32)).cell? ⟨w.heap.size, 1, none⟩ = some (.int .u32 (d : Int)) := by go_simp
    have c1 := fun W => has_nil ⟨i, d, hi, hd⟩ W
    have c2 := fun W => sadd_nil ⟨i, d, hi, hd⟩ W
    have c3 := fun W => sdrop_nil ⟨i, d, hi, hd⟩ W
    have c6 := fun W (hb : Below w.heap.size w W) => sunion_nil A n c l w.heap.size W (hA.below hb) hb.size (by unfold maxLen; omega)
    simp only at c1 c2 c3
    go_enter Try.func6, Try.ntmps6
    go_wp2_with fail
    refine (c1 _).mono ?_
    rintro e w1 ⟨rfl, hb⟩
    have g0 := cell_later f0 hb
    have g1 := cell_later f1 hb
    have hb1 := hb0.trans (hb.mono hb0.size)
    clear hb hb0 f0 f1 c1
    go_wp2_with fail
    refine (c2 _).mono ?_
    rintro e w2 ⟨rfl, hb⟩
    have f0 := cell_later g0 hb
    have f1 := cell_later g1 hb
    have hb2 := hb1.trans (hb.mono hb1.size)
    clear hb hb1 g0 g1 c2
    go_wp2_with fail
    refine (c3 _).mono ?_
    rintro e w3 ⟨rfl, hb⟩
    have hb3 := hb2.trans (hb.mono hb2.size)
    clear hb hb2 f0 f1 c3
    go_wp2_with fail
    refine (slen_nil _).mono ?_
    rintro e w4 ⟨rfl, rfl⟩
    go_wp2_with fail
    refine (slist_nil _).mono ?_
    rintro e w5 ⟨rfl, rfl⟩
    go_wp2_with fail
    refine (c6 _ hb3).mono ?_
    rintro e w6 ⟨rfl, hb⟩
    have hb6 := hb3.trans (hb.mono hb3.size)
    clear hb hb3 c6
    go_wp2_with fail
    refine (skeep_nil _ _ _ _).mono ?_
    rintro e w7 ⟨rfl, rfl⟩
    go_wp2_with fail
    refine (awake4_any _).mono ?_
    rintro e w8 ⟨rfl, hb⟩
    have hb8 := hb6.trans (hb.mono hb6.size)
    clear hb hb6
    go_wp2
    go_ret
    exact ⟨rfl, hb8⟩

/-! ### THE ROW's STEP -/
set_option maxRecDepth 100000 in
theorem lifted (os : Os) (started : os.Started) (H : Type) (enc : TypeId × Value → H) :
    ReturnsInHanded {} Try.checked os 6 .any (Rows.psetNilSpec.pre6 enc Try.prog Try.f6 Rows.psetNilRow.domain false) (Rows.psetNilSpec.post enc Try.prog Try.f6 false true false false) := by
  refine returnsInHanded_of_change (C := Try.checked) own started (by kernel_rfl) Try.func6
    (ChangeSpec.witness6 (enc := enc) (C := Try.checked) false ⟨#[], #[.agg #[.int .u16 0, .int .u32 0], .slice none 0 0], []⟩ 8 (by kernel_rfl) (by kernel_rfl) (by kernel_rfl) (by kernel_rfl)) ?_
  intro W base args ds gs before hval0 hW hcnd _
  have hval : ∀ (j : Nat) t v, Try.f6.params[j]? = some t → args[j]? = some v → Value.okWide Try.prog W .any base t v := hval0
  have hW' := hW
  obtain ⟨p, q, hA0, hV, rfl, hfz, hnd⟩ := hW
  have hA : DataW.TrodAll enc Try.prog W 0 (fun _ => true) true Try.f6.params.toList args.toList ds p := hA0
  rw [Try.params6] at hA hval
  obtain ⟨v0, vs0, d0, ds0, p0, q0, hargs, rfl, rfl, h0, r0⟩ := trodAll_cons hA
  obtain ⟨v1, vs1, d1, ds1, p1, q1, rfl, rfl, rfl, h1, r1⟩ := trodAll_cons r0
  obtain ⟨rfl, rfl, rfl⟩ := trodAll_nil r1
  obtain rfl : args = #[v0, v1] := by cases args; simp_all
  obtain ⟨rfl, rfl⟩ := trodVars_none hV
  have k0 := h0
  have lt0 : ∀ x ∈ p0, x.block < W.heap.size := by obtain ⟨m, hm⟩ := k0; exact DataW.trod_lt m _ _ _ hm
  obtain ⟨i0, c0, rfl, hi0, hc0⟩ := open_pid (hval 0 32 v0 rfl rfl) h0
  have k1 := h1
  have lt1 : ∀ x ∈ p1, x.block < W.heap.size := by obtain ⟨m, hm⟩ := k1; exact DataW.trod_lt m _ _ _ hm
  obtain ⟨a1, len1, cap1, rfl⟩ := okWide_slice Try.underlying22 (hval 1 22 v1 rfl rfl)
  obtain ⟨z1, w1⟩ : ∃ l, Ps0 W a1 len1 cap1 l := by
    obtain ⟨fuel, hf⟩ := h1
    exact pids_row (open_pids hf) rfl
  clear hA0 hval0
  refine (walk i0 c0 a1 len1 cap1 z1 W hi0 hc0 w1).mono fun e W' ⟨he, bel⟩ => ?_
  subst he
  exact ⟨_, rfl, _, _, _, [], _, [], hW', trodAll_mk1 (shut_bool Try.underlying4 _), (trodAll_cons_mk (Below.trod laidOut (by kernel_rfl) (of_decide_eq_true (by kernel_rfl)) k0 bel lt0) (trodAll_cons_mk (Below.trod laidOut (by kernel_rfl) (of_decide_eq_true (by kernel_rfl)) k1 bel lt1) trodAll_mk0)), rfl, bel.frame _, fun h => by cases h⟩

theorem over : Rows.psetNilRow.holds Try.pinned (OpenSpec.ofChange Rows.psetNilSpec) :=
  OpenClaim.holds_of_wide 6 Try.f6 rfl rfl rfl rfl rfl rfl rfl ⟨rfl, rfl, rfl, rfl, rfl⟩ rfl rfl rfl rfl rfl (by kernel_rfl) Try.func6 (by kernel_rfl)
    (of_decide_eq_true (by kernel_rfl)) (by unfold Func.isWrapper; first | (rw [if_pos (by decide +kernel)]; kernel_rfl) | (rw [if_neg (by decide +kernel)]; exact ⟨rfl, rfl⟩))
    (fun os started H enc _ => lifted os started H enc)

theorem proved : Rows.PsetNilSaid := over
#print axioms proved
end Go.Proofs.Ytfjefhmpfnnmeaa.psetNil
