/-
  Layer 9: the document's examples, awake.
-/
import Derived.Lib.SlBytesConst
import Derived.Test.YtdmihbicpjmgjaaDoorQCmd4
import Derived.Test.YtdmihbicpjmgjaaDoorQPut1
import Derived.Deep.WholeRow
import Derived.Test.YtdmihbicpjmgjaaDoorQMask4
namespace Go.Proofs.YtdmihbicpjmgjaaDoor
open Go.RowKit Go.Maps
set_option linter.unusedVariables false
set_option linter.unusedSimpArgs false

def nopX : Cx := zX 1 zeroX
def sendX (g : Nat) : Cx := ⟨2, ⟨1, 1, by decide, by decide⟩, 2, 3, some ⟨g, 0, none⟩, 1, 1, [97], zeroX⟩
theorem nop_may : MayC nopX.m := ⟨.inl ⟨rfl, rfl⟩, by decide⟩
theorem send_may (g : Nat) : MayC (sendX g).m := by
  show MayC ⟨2, ⟨1, 1, by decide, by decide⟩, 2, 3, [97], noV⟩
  exact ⟨.inr (.inl ⟨rfl, by decide, ⟨by decide, by decide⟩, ⟨by decide, by decide⟩, rfl⟩), by decide⟩
/-- A literal's row with a mark behind it. -/
theorem bs_mark9 (w : World) (t : TypeId) (fr : Nat × Nat) (l : List UInt8) (cs : Array Value) (n : Nat) (hc : cs = (bvs l).toArray) (hn : l.length = n) : Bs (w.alloc (.cells cs t fr)) (w.heap.size + 1) (some ⟨w.heap.size, 0, none⟩) n l := by
  subst hc
  refine ⟨hn, fun _ => ⟨_, rfl, Nat.lt_succ_self _, fun j x hj => ?_⟩⟩
  have h := World.cell?_alloc_mark w (bvs l).toArray t fr j
  have e : (⟨w.heap.size, 0, none⟩ : Addr).add j = ⟨w.heap.size, j, none⟩ := by
    unfold Addr.add; split
    · subst_vars; rfl
    · simp
  rw [e, h]
  simp [bvs, hj]
theorem add_block (a : Addr) (j : Nat) : (a.add j).block = a.block := by unfold Addr.add; split <;> rfl
theorem zeroX_few : VSmall zeroX := ⟨by decide, by decide, by decide, fun y hy => by simp [zeroX] at hy⟩
theorem nop_form : [] ++ formC nopX.m = [1] := by decide
theorem send_form (g : Nat) : [1] ++ formC (sendX g).m = [1, 2, 1, 1, 2, 3, 1, 97] := by
  show [1] ++ formC ⟨2, ⟨1, 1, by decide, by decide⟩, 2, 3, [97], noV⟩ = _
  decide
set_option maxRecDepth 100000 in
theorem awake9_any (w : World) :
    Calls Tryd.prog 5 #[] w fun e w' => e = .returned (.bool true) ∧ Below w.heap.size w w' := by
  have h1 := WrAt.new w w.heap.size (Nat.le_refl _)
  have hb1 : Below w.heap.size w (w.alloc (.cells #[.slice none 0 0] 41)) := (Below.refl _ _).alloc (Nat.le_refl _) _
  have kc := fun (w : World) (C : Array Value) (n c : Nat) => Lib.run_convert_bytes_const (P := Tryd.prog) w 27 5 C n c Tryd.underlying27 Tryd.underlying5
  go_enter Tryd.func5, Tryd.ntmps5
  go_wp2_with fail
  have hs1 : (w.alloc (.cells #[.slice none 0 0] 41)).heap.size = w.heap.size + 1 := by simp
  generalize (w.alloc (.cells #[.slice none 0 0] 41)) = w1 at h1 hb1 hs1 ⊢
  have c1 := cput_any nopX w.heap.size w.heap.size w.heap.size none [] w1 h1 hb1.size (by decide) (zX_in (by decide) (by decide) (zeroX_at _ _)) (Nat.le_refl _) ⟨by decide, zeroX_few⟩ nop_may
  rw [nop_form] at c1
  refine c1.mono ?_
  rintro e w2 ⟨rfl, mg2, h2, ht2, hm2⟩
  have hb2 := hb1.trans (h1.turned ht2 hb1.size)
  have hs2 : w.heap.size + 1 ≤ w2.heap.size := by rw [← hs1]; exact ht2.size
  have hmg : ∀ g, mg2 = some g → g < w2.heap.size := fun g hg => (h2.mlt g hg).2.1
  have h3 := h2.alloc (.cells #[.int .u8 97] 5 (1, 2))
  have hb3 := hb2.alloc hb2.size (.cells #[.int .u8 97] 5 (1, 2))
  have hd3 : Bs (w2.alloc (.cells #[.int .u8 97] 5 (1, 2))) (w2.heap.size + 1) (some ⟨w2.heap.size, 0, none⟩) 1 [97] := by
    exact bs_mark9 w2 _ _ [97] #[.int .u8 97] 1 (by rfl) rfl
  have hs3 : (w2.alloc (.cells #[.int .u8 97] 5 (1, 2))).heap.size = w2.heap.size + 1 := by simp
  go_wp2_with fail
  generalize (w2.alloc (.cells #[.int .u8 97] 5 (1, 2))) = w3 at *
  have hfar : ∀ W, Turn w3 W w.heap.size mg2 → Bs W (w2.heap.size + 1) (some ⟨w2.heap.size, 0, none⟩) 1 [97] := fun W hT => by
    refine ⟨rfl, fun _ => ?_⟩
    obtain ⟨ad, e, hlt, hc⟩ := hd3.2 (by decide)
    refine ⟨ad, e, hlt, fun j x hx => ?_⟩
    injection e with e
    subst e
    exact hT.cell (hc j x hx) (by rw [add_block]; show w2.heap.size ≠ _; omega) (fun e => by rw [add_block] at e; exact absurd (hmg _ e.symm) (Nat.lt_irrefl _))
  have c2 := cput_far (sendX w2.heap.size) w.heap.size w.heap.size (w2.heap.size + 1) w.heap.size mg2 [1] w3 h3 hb3.size (by decide) ⟨by show (-9223372036854775808 : Int) ≤ 2; decide, by show (2 : Int) ≤ 9223372036854775807; decide, by show 2 < 18446744073709551616; decide, by show 3 < 18446744073709551616; decide, hd3, Nat.le_refl _, by show 1 ≤ maxLen; decide, zeroX_at _ _⟩ (by omega) hfar (zeroX_at _ _) (Nat.le_refl _) ⟨by show 1 ≤ 400; decide, zeroX_few⟩ (send_may _)
  rw [send_form] at c2
  clear c1
  refine c2.mono ?_
  rintro e w4 ⟨rfl, mg4, h4, ht4, hm4⟩
  have hb4 := hb3.trans (h3.turned ht4 hb3.size)
  clear c2 hfar hd3 hmg
  go_wp2_with fail
  refine (wdone_any w.heap.size _ mg4 [1, 2, 1, 1, 2, 3, 1, 97] w4 h4 (by decide)).mono ?_
  rintro e w5 ⟨A5, c5, rfl, hO5, hb5⟩
  have hb6 := (hb4.trans (hb5.mono hb4.size))
  have hb7 := hb6.alloc hb6.size (.cells #[.int .u8 1, .int .u8 2, .int .u8 1, .int .u8 1, .int .u8 2, .int .u8 3, .int .u8 1, .int .u8 97] 5)
  clear hb1 hb2 hb3 hb4 hb5 h1 h2 h3 h4 ht2 ht4 hm2 hm4 hs1 hs2 hs3
  go_wp2_with fail
  refine (same_eq _ _ _ _ _ _ [1, 2, 1, 1, 2, 3, 1, 97] [1, 2, 1, 1, 2, 3, 1, 97] _ _ _ (hO5.alloc _).bs (own_lit w5 0 8 [1, 2, 1, 1, 2, 3, 1, 97] _ (by rfl) rfl (by decide) (Nat.zero_le _)).bs (by decide) rfl).mono ?_
  rintro e w6 ⟨rfl, hd⟩
  have hbz := hb7.trans (drawn_below hd)
  clear hd hO5 hb6 hb7
  go_wp2
  go_ret
  exact ⟨rfl, hbz⟩
end Go.Proofs.YtdmihbicpjmgjaaDoor
namespace Go.Proofs.YtdmihbicpjmgjaaDoor
open Go.RowKit
set_option linter.unusedVariables false

/-- How many bits a number needs. -/
def topF : Nat → Nat → Nat
  | 0, _ => 0
  | k + 1, n => if n = 0 then 0 else topF k (n / 2) + 1
theorem topF_zero (k : Nat) : topF k 0 = 0 := by cases k <;> simp [topF]
theorem topF_pos (k n : Nat) (h : n ≠ 0) : topF (k + 1) n = topF k (n / 2) + 1 := by simp [topF, h]
theorem topF_le (k n : Nat) : topF k n ≤ k := by
  induction k generalizing n with
  | zero => simp [topF]
  | succ k ih =>
    by_cases h : n = 0
    · rw [h, topF_zero]; omega
    · rw [topF_pos k n h]; have := ih (n / 2); omega
theorem topF_lt (k n : Nat) (h : n < 2 ^ k) : n < 2 ^ topF k n := by
  induction k generalizing n with
  | zero => simpa [topF] using h
  | succ k ih =>
    by_cases h0 : n = 0
    · rw [h0, topF_zero]; decide
    · rw [topF_pos k n h0, Nat.pow_succ]
      have := ih (n / 2) (by rw [Nat.pow_succ] at h; omega)
      omega
theorem topF_ge (k n : Nat) (h : 0 < topF k n) : 2 ^ (topF k n - 1) ≤ n := by
  induction k generalizing n with
  | zero => simp [topF] at h
  | succ k ih =>
    by_cases h0 : n = 0
    · rw [h0, topF_zero] at h; omega
    · rw [topF_pos k n h0]
      by_cases h1 : 0 < topF k (n / 2)
      · have := ih (n / 2) h1
        rw [show topF k (n / 2) + 1 - 1 = topF k (n / 2) - 1 + 1 from by omega, Nat.pow_succ]
        omega
      · rw [show topF k (n / 2) + 1 - 1 = 0 from by omega]
        simp; omega
def topL (n : Nat) : Nat := topF 64 n
theorem topL_le (n : Nat) : topL n ≤ 64 := topF_le 64 n
theorem topL_zero_iff (n : Nat) : topL n = 0 ↔ n = 0 := by
  constructor
  · intro h
    by_cases h0 : n = 0
    · exact h0
    · unfold topL at h; rw [topF_pos 63 n h0] at h; omega
  · rintro rfl; exact topF_zero 64
theorem topL_bit (n : Nat) (hn : n < 18446744073709551616) (h : 0 < topL n) : bitB n (topL n - 1) = true := by
  have h1 := topF_lt 64 n hn
  have h2 := topF_ge 64 n h
  unfold topL at *
  generalize topF 64 n = t at *
  obtain ⟨s, rfl⟩ : ∃ s, t = s + 1 := ⟨t - 1, by omega⟩
  simp only [Nat.add_sub_cancel] at h2 ⊢
  rw [Nat.pow_succ] at h1
  have h3 : n / 2 ^ s < 2 := by rw [Nat.div_lt_iff_lt_mul (Nat.pow_pos (by decide)), Nat.mul_comm]; exact h1
  have h4 : 1 ≤ n / 2 ^ s := by rw [Nat.le_div_iff_mul_le (Nat.pow_pos (by decide))]; omega
  simp only [bitB, decide_eq_true_eq]
  omega
theorem topL_over (n i : Nat) (hn : n < 18446744073709551616) (h : topL n ≤ i) : bitB n i = false := by
  have h1 := topF_lt 64 n hn
  have h2 : n < 2 ^ i := Nat.lt_of_lt_of_le h1 (Nat.pow_le_pow_right (by decide) h)
  simp [bitB, Nat.div_eq_of_lt h2]

/-- At the head of Top's round. -/
structure TopInv (n j m : Nat) : Prop where
  whole : topL n = j + topF (64 - j) m
  small : m < 2 ^ (64 - j)
  upto : j ≤ 64
theorem TopInv.start (n : Nat) (h : n < 18446744073709551616) : TopInv n 0 n := ⟨by simp [topL], h, by omega⟩
theorem TopInv.step {n j m : Nat} (h : TopInv n j m) (hm : m ≠ 0) : TopInv n (j + 1) (m / 2) := by
  obtain ⟨h1, h2, h3⟩ := h
  obtain ⟨r, hr⟩ : ∃ r, 64 - j = r := ⟨_, rfl⟩
  rw [hr] at h1 h2
  cases r with
  | zero => simp at h2; omega
  | succ r =>
    have e : 64 - (j + 1) = r := by omega
    refine ⟨by rw [h1, topF_pos r m hm, e]; omega, ?_, by omega⟩
    rw [e]
    rw [Nat.pow_succ] at h2
    omega
theorem TopInv.stop {n j : Nat} (h : TopInv n j 0) : j = topL n := by rw [h.whole, topF_zero]; omega
theorem TopInv.room {n j m : Nat} (h : TopInv n j m) : j ≤ 64 := h.upto
theorem TopInv.fits {n j m : Nat} (h : TopInv n j m) : m < 18446744073709551616 := Nat.lt_of_lt_of_le h.small (Nat.pow_le_pow_right (by decide) (by omega : 64 - j ≤ 64))

end Go.Proofs.YtdmihbicpjmgjaaDoor
namespace Go.Proofs.YtdmihbicpjmgjaaDoor
open Go.RowKit
set_option linter.unusedVariables false
set_option linter.unusedSimpArgs false

/-- 128 bools as cells. -/
def flagsA (p : Nat → Bool) : Array Value := ((List.range 128).map fun i => Value.bool (p i)).toArray
theorem flagsA_size (p : Nat → Bool) : (flagsA p).size = 128 := by simp [flagsA]
theorem flagsA_get (p : Nat → Bool) (i : Nat) (h : i < 128) : (flagsA p)[i]? = some (.bool (p i)) := by simp [flagsA, h]
theorem flagsA_over (p : Nat → Bool) (i : Nat) (h : ¬ i < 128) : (flagsA p)[i]? = none := by simp [flagsA]; omega
theorem flagsA_one (p : Nat → Bool) : (flagsA p).all (·.oneCell') = true := by
  rw [Array.all_eq_true_iff_forall_mem]
  intro x hx
  simp only [flagsA, List.mem_toArray, List.mem_map] at hx
  obtain ⟨i, _, rfl⟩ := hx
  rfl
theorem flagsA_congr {p q : Nat → Bool} (h : ∀ i, i < 128 → p i = q i) : flagsA p = flagsA q := by
  unfold flagsA
  congr 1
  exact List.map_congr_left fun i hi => by rw [h i (by simpa using hi)]
theorem flagsA_set (p : Nat → Bool) (i : Nat) (v : Bool) (h : i < 128) : (flagsA p).setIfInBounds i (.bool v) = flagsA fun j => if j = i then v else p j := by
  apply Array.ext_getElem?
  intro j
  rw [Array.getElem?_setIfInBounds]
  by_cases hj : j < 128
  · rw [flagsA_get _ _ hj]
    by_cases e : i = j
    · subst e
      rw [if_pos rfl, if_pos (by rw [flagsA_size]; exact h), flagsA_get _ _ hj, if_pos rfl]
    · rw [if_neg e, flagsA_get _ _ hj, if_neg (fun x => e x.symm)]
  · rw [flagsA_over _ _ hj]
    by_cases e : i = j
    · omega
    · rw [if_neg e, flagsA_over _ _ hj]
section
variable {w w' : World} {b : Nat} {p : Nat → Bool}
end

theorem bitB_test (n k : Nat) : bitB n k = n.testBit k := (Nat.testBit_eq_decide_div_mod_eq).symm
theorem cnt_half (a b k : Nat) (h : k < 128) : cnt (bitM a b) (k + 1) = cnt (bitM a b) k + (bitM a b k).toNat := rfl
end Go.Proofs.YtdmihbicpjmgjaaDoor
