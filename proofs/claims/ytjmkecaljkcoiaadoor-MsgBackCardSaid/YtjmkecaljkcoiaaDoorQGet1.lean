import Derived.Test.YtjmkecaljkcoiaaDoorQPut1
import Derived.Test.YtjmkecaljkcoiaaDoorQBytes1
namespace Go.Proofs.YtjmkecaljkcoiaaDoor
open Go.RowKit
set_option linter.unusedVariables false
def getR : Nat → Nat → List UInt8 → Nat × Nat × Nat
  | _, _, [] => (0, 0, 2)
  | i, acc, c :: t =>
    if i = 9 ∧ 1 < c.toNat then (0, 0, 5)
    else if 128 ≤ c.toNat then getR (i + 1) (acc + c.toNat % 128 * 2 ^ (7 * i)) t
    else if c.toNat = 0 ∧ 0 < i then (0, 0, 5)
    else (acc + c.toNat % 128 * 2 ^ (7 * i), i + 1, 0)
def getF (l : List UInt8) : Nat × Nat × Nat := getR 0 0 l
structure GetInv (l : List UInt8) (j acc : Nat) : Prop where
  whole : getF l = getR j acc (l.drop j)
  upto : j ≤ 9
  small : acc < 2 ^ (7 * j)
theorem GetInv.start (l : List UInt8) : GetInv l 0 0 := ⟨rfl, by omega, by decide⟩
section
variable {l : List UInt8} {j acc y : Nat}
theorem GetInv.end_ (h : GetInv l j acc) (hj : l.length ≤ j) : getF l = (0, 0, 2) := by
  rw [h.whole, List.drop_eq_nil_of_le hj, getR]
theorem GetInv.form (h : GetInv l j acc) (hj : j < l.length) (hy : y = l[j].toNat) (h9 : j = 9) (h1 : 1 < y) : getF l = (0, 0, 5) := by
  rw [h.whole, List.drop_eq_getElem_cons hj, getR, if_pos ⟨h9, by omega⟩]
theorem GetInv.zero (h : GetInv l j acc) (hj : j < l.length) (hy : y = l[j].toNat) (h0 : y = 0) (h1 : 0 < j) : getF l = (0, 0, 5) := by
  rw [h.whole, List.drop_eq_getElem_cons hj, getR, if_neg (by omega), if_neg (by omega), if_pos ⟨by omega, h1⟩]
theorem GetInv.done (h : GetInv l j acc) (hj : j < l.length) (hy : y = l[j].toNat) (h9 : ¬ (j = 9 ∧ 1 < y)) (h1 : y < 128) (h2 : ¬ (y = 0 ∧ 0 < j)) : getF l = (acc + y % 128 * 2 ^ (7 * j), j + 1, 0) := by
  rw [h.whole, List.drop_eq_getElem_cons hj, getR, if_neg (by omega), if_neg (by omega), if_neg (by omega), ← hy]
theorem GetInv.step (h : GetInv l j acc) (hj : j < l.length) (hy : y = l[j].toNat) (h9 : ¬ (j = 9 ∧ 1 < y)) (h1 : 128 ≤ y) : GetInv l (j + 1) (acc + y % 128 * 2 ^ (7 * j)) := by
  have hs := h.small
  refine ⟨by rw [h.whole, List.drop_eq_getElem_cons hj, getR, if_neg (by omega), if_pos (by omega), ← hy], by have := h.upto; omega, ?_⟩
  have e : 2 ^ (7 * (j + 1)) = 128 * 2 ^ (7 * j) := by rw [show (128 : Nat) = 2 ^ 7 from rfl, ← Nat.pow_add]; congr 1; omega
  rw [e]
  have h3 : y % 128 * 2 ^ (7 * j) ≤ 127 * 2 ^ (7 * j) := Nat.mul_le_mul_right _ (by omega)
  omega
theorem GetInv.fits (h : GetInv l j acc) (hy : y < 256) (h9 : ¬ (j = 9 ∧ 1 < y)) : y % 128 * 2 ^ (7 * j) < 18446744073709551616 ∧ acc + y % 128 * 2 ^ (7 * j) < 18446744073709551616 ∧ acc < 18446744073709551616 ∧ 2 ^ (7 * j) < 18446744073709551616 := by
  have hs := h.small
  have hu := h.upto
  by_cases hj9 : j = 9
  · subst hj9
    have : y % 128 ≤ 1 := by omega
    simp only [show 7 * 9 = 63 from rfl] at *
    omega
  · have h2 : 2 ^ (7 * j) ≤ 2 ^ 56 := Nat.pow_le_pow_right (by decide) (by omega)
    have h3 : y % 128 * 2 ^ (7 * j) ≤ 127 * 2 ^ 56 := Nat.mul_le_mul (by omega) h2
    simp only [show (2 : Nat) ^ 56 = 72057594037927936 from rfl] at *
    omega
end
theorem or_code (acc y j : Nat) (h : acc < 2 ^ (7 * j)) (hy : y < 256) (h1 : y % 128 * 2 ^ (7 * j) < 18446744073709551616) (h2 : acc < 18446744073709551616) :
    bits .or .u64 (acc : Int) (IntKind.u64.wrap (IntKind.u64.wrap (bits .andNot .u8 (y : Int) 128) * 2 ^ (7 * j))) = ((acc + y % 128 * 2 ^ (7 * j) : Nat) : Int) := by
  have e1 : bits .andNot .u8 (y : Int) 128 = ((y % 128 : Nat) : Int) := by
    have := u8_andNot_nat y 128 hy (by omega)
    rw [show ((128 : Nat) : Int) = 128 from rfl] at this
    rw [this, show 255 - 128 = 127 from rfl, nat_mask7]
  rw [e1, IntKind.wrap_u64, IntKind.wrap_u64, show ((y % 128 : Nat) : Int) % 18446744073709551616 = ((y % 128 : Nat) : Int) from by omega]
  have e2 : ((y % 128 : Nat) : Int) * 2 ^ (7 * j) = ((y % 128 * 2 ^ (7 * j) : Nat) : Int) := by push_cast; rfl
  rw [e2, show ((y % 128 * 2 ^ (7 * j) : Nat) : Int) % 18446744073709551616 = ((y % 128 * 2 ^ (7 * j) : Nat) : Int) from by omega, u64_or_nat _ _ h2 h1, Nat.or_comm, nat_join (7 * j) _ _ (Nat.mul_mod_left _ _) h]
  omega
theorem getR_short (k i acc m : Nat) (t : List UInt8) (hk : i + k = 9) (hm : m < 2 * 128 ^ k) (h0 : 0 < i → 0 < m) :
    getR i acc (shortF k m ++ t) = (acc + m * 2 ^ (7 * i), i + (shortF k m).length, 0) := by
  induction k generalizing i acc m with
  | zero =>
    have hm2 : m < 2 := by simpa using hm
    rw [shortF, List.singleton_append, getR, lowB_toNat, if_neg (by omega), if_neg (by omega), if_neg (by omega)]
    simp
    rw [Nat.mod_eq_of_lt (by omega)]
  | succ k ih =>
    by_cases h : m < 128
    · rw [shortF_small _ _ h, List.singleton_append, getR, lowB_toNat, if_neg (by omega), if_neg (by omega), if_neg (by omega)]
      simp
      rw [Nat.mod_eq_of_lt (by omega)]
    · rw [shortF_big _ _ h, List.cons_append, getR, lowB_toNat, if_neg (by omega), if_pos (by omega), ih (i + 1) _ (m / 128) (by omega)]
      · have e : 2 ^ (7 * (i + 1)) = 128 * 2 ^ (7 * i) := by rw [show (128 : Nat) = 2 ^ 7 from rfl, ← Nat.pow_add]; congr 1; omega
        rw [e, show (m % 128 + 128) % 256 % 128 = m % 128 from by omega]
        refine Prod.ext ?_ (Prod.ext ?_ rfl)
        · simp only []
          rw [← Nat.mul_assoc, Nat.add_assoc, ← Nat.add_mul]
          congr 2
          omega
        · simp; omega
      · rw [Nat.div_lt_iff_lt_mul (by decide)]; rw [pow_two_128] at hm; exact hm
      · intro _; omega
theorem getF_short (n : Nat) (t : List UInt8) (h : n < 18446744073709551616) : getF (shortL n ++ t) = (n, (shortL n).length, 0) := by
  unfold getF shortL
  rw [getR_short 9 0 0 n t rfl (by omega) (by omega)]
  simp
theorem shortL_len (n : Nat) : 1 ≤ (shortL n).length ∧ (shortL n).length ≤ 10 := shortF_len 9 n
set_option maxRecDepth 100000 in
set_option maxHeartbeats 800000 in
theorem getShort_any (A : Option Addr) (n c : Nat) (l : List UInt8) (B : Nat) (w : World) (hA : Bs w B A n l) (hn : n ≤ maxLen) :
    Calls Tryd.prog 93 #[.slice A n c] w fun e w' => e = .returned (.tuple #[.int .u64 ((getF l).1 : Nat), .int .i64 ((getF l).2.1 : Nat), .int .i64 ((getF l).2.2 : Nat)]) ∧ w = w' := by
  unfold maxLen at hn
  have hlen := hA.len
  have HL := hide hlen
  clear hlen
  have H0 := GetInv.start l
  go_enter Tryd.func93, Tryd.ntmps93
  go_wp2
  go_loop [2, 9] (fun m i => ∃ j acc : Nat, i = .int .i64 j ∧ m = .int .u64 (acc : Int) ∧ j ≤ n ∧ GetInv l j acc) (fun _ i => n - (intOf i).toNat)
  case atStart => exact ⟨0, 0, rfl, rfl, Nat.zero_le _, H0⟩
  case round =>
    obtain ⟨j, acc, rfl, rfl, hjn, hinv⟩ := hrel
    have hj9 := hinv.upto
    by_cases hlt : j < n
    · obtain ⟨ad, hl, rfl, _, hc⟩ := hA.at_ hlt
      unfold byteV at hc
      obtain ⟨y, hy⟩ : ∃ y : Nat, y = l[j].toNat := ⟨_, rfl⟩
      rw [← hy] at hc
      have hy256 : y < 256 := by rw [hy]; exact l[j].toNat_lt
      have HY := hide hy
      clear hy
      by_cases h9 : j = 9 ∧ 1 < y
      · obtain ⟨hj, h1⟩ := h9
        have e := hinv.form hl HY.out hj h1
        have E := hide e
        have t9 : ((j : Int) == 9) = true := by rw [beq_iff_eq]; omega
        clear e hj
        go_wp2
        go_ret3
        rw [E.out]
        exact ⟨rfl, rfl⟩
      · have hf := hinv.fits hy256 h9
        have hor := or_code acc y j hinv.small hy256 hf.1 hf.2.2.1
        have HOR := hide hor
        have HF := hide hf
        clear hor hf
        have t9 : ((j : Int) == 9) = false ∨ j = 9 ∧ y ≤ 1 := by
          by_cases hj : j = 9
          · exact .inr ⟨hj, by omega⟩
          · exact .inl (by rw [beq_eq_false_iff_ne]; omega)
        by_cases h128 : 128 ≤ y
        · have t9' : ((j : Int) == 9) = false := by rw [beq_eq_false_iff_ne]; omega
          have hj8 : j ≤ 8 := by omega
          have hi := hinv.step hl HY.out h9 h128
          clear t9 h9
          go_wp2
          go_round
          case rel => exact ⟨j + 1, acc + y % 128 * 2 ^ (7 * j), by go_num, by rw [HOR.out], by omega, hi⟩
          case measure => simp [intOf]; omega
        · by_cases hz : y = 0 ∧ 0 < j
          · obtain ⟨h0, hj0⟩ := hz
            have e := hinv.zero hl HY.out h0 hj0
            have E := hide e
            have t0 : ((y : Int) == 0) = true := by rw [beq_iff_eq]; omega
            clear e h0
            have hyb : y ≤ 1 := by rw [beq_iff_eq] at t0; omega
            rcases t9 with t9 | ⟨hj, _⟩
            · go_wp2
              go_ret3
              rw [E.out]
              exact ⟨rfl, rfl⟩
            · have t9 : ((j : Int) == 9) = true := by rw [beq_iff_eq]; omega
              clear hj
              go_wp2
              go_ret3
              rw [E.out]
              exact ⟨rfl, rfl⟩
          · have e := hinv.done hl HY.out h9 (by omega) hz
            have E := hide e
            clear e
            have tz : ((y : Int) == 0) = false ∨ ((y : Int) == 0) = true ∧ j = 0 := by
              by_cases h0 : y = 0
              · exact .inr ⟨by rw [beq_iff_eq]; omega, by omega⟩
              · exact .inl (by rw [beq_eq_false_iff_ne]; omega)
            clear hz h9
            rcases t9 with t9 | ⟨hj, hy1⟩
            · rcases tz with tz | ⟨tz, hj0⟩
              · go_wp2
                go_ret3
                rw [E.out]
                exact ⟨by rw [HOR.out]; rfl, rfl⟩
              · have tj : decide ((0 : Int) < (j : Int)) = false := by simp; omega
                have hjz : j ≤ 0 := by omega
                clear hj0
                go_wp2
                go_ret3
                rw [E.out]
                exact ⟨by rw [HOR.out]; rfl, rfl⟩
            · have t9 : ((j : Int) == 9) = true := by rw [beq_iff_eq]; omega
              have hjp : 0 < j := by omega
              clear hj
              rcases tz with tz | ⟨tz, hj0⟩
              · go_wp2
                go_ret3
                rw [E.out]
                exact ⟨by rw [HOR.out]; rfl, rfl⟩
              · omega
    · have e := hinv.end_ (by rw [HL.out]; omega)
      have E := hide e
      clear e
      go_wp2
      go_ret3
      rw [E.out]
      exact ⟨rfl, rfl⟩
end Go.Proofs.YtjmkecaljkcoiaaDoor
namespace Go.Proofs.YtjmkecaljkcoiaaDoor
open Go.RowKit
set_option linter.unusedVariables false
theorem join8 (m : Nat) (x : UInt8) (hm : m < 72057594037927936) : bits .or .u64 (IntKind.u64.wrap ((m : Int) * 256)) (x.toNat : Int) = ((m * 256 + x.toNat : Nat) : Int) := by
  have hx := x.toNat_lt
  rw [IntKind.wrap_u64, show ((m : Int) * 256) % 18446744073709551616 = ((m * 256 : Nat) : Int) from by omega, u64_or_nat _ _ (by omega) (by omega), nat_join 8 _ _ (by omega) hx]
theorem numL_take_snoc {l : List UInt8} {k : Nat} (h : k < l.length) : numL (l.take (k + 1)) = numL (l.take k) * 256 + l[k].toNat := by
  rw [take_snoc h, numL_snoc]
theorem numL_take_lt (l : List UInt8) (k j : Nat) (h : k ≤ j) : numL (l.take k) < 2 ^ (8 * j) := by
  have h1 := numL_lt (l.take k)
  have h2 : (l.take k).length ≤ j := Nat.le_trans (List.length_take_le _ _) h
  exact Nat.lt_of_lt_of_le h1 (Nat.pow_le_pow_right (by decide) (by omega))
theorem get_short (A : Option Addr) (n c W : Nat) (w : World) (hn : n ≤ maxLen) (hW : widthB (W : Int) = true) (hlt : n < W) :
    Calls Tryd.prog 120 #[.slice A n c, .int .i64 (W : Int)] w fun e w' => e = .returned (.tuple #[.int .u64 0, .int .i64 2]) ∧ w = w' := by
  unfold maxLen at hn
  go_enter Tryd.func120, Tryd.ntmps120
  go_wp2_with fail
  refine (width_any _ _).mono ?_
  rintro e w' ⟨rfl, rfl⟩
  rw [hW]
  go_wp2
  go_ret2
  exact ⟨rfl, rfl⟩
set_option maxRecDepth 100000 in
theorem get_any (A : Option Addr) (n c W : Nat) (l : List UInt8) (B : Nat) (w : World) (hA : Bs w B A n l) (hn : n ≤ maxLen) (hnc : n ≤ c) (hW : widthB (W : Int) = true) (hle : W ≤ n) :
    Calls Tryd.prog 120 #[.slice A n c, .int .i64 (W : Int)] w fun e w' => e = .returned (.tuple #[.int .u64 (numL (l.take W) : Nat), .int .i64 0]) ∧ w = w' := by
  unfold maxLen at hn
  have hW8 : W ≤ 8 := by have := widthB_cases hW; omega
  have hlen := hA.len
  have HL := hide hlen
  clear hlen
  go_enter Tryd.func120, Tryd.ntmps120
  go_wp2_with fail
  refine (width_any _ _).mono ?_
  rintro e w' ⟨rfl, rfl⟩
  rw [hW]
  go_wp2
  go_loop [6, 20] (fun m i => ∃ j x : Nat, j ≤ W ∧ i = .int .i64 j ∧ m = .int .u64 (x : Int) ∧ x = numL (l.take j)) (fun _ i => W - (intOf i).toNat)
  case atStart => exact ⟨0, 0, Nat.zero_le _, rfl, rfl, by simp [numL_nil]⟩
  case round =>
    obtain ⟨j, x, hj, rfl, rfl, hx⟩ := hrel
    by_cases hlt : j < W
    · obtain ⟨ad, hl, rfl, _, hc⟩ := hA.at_ (k := j) (by omega)
      have hb : x < 72057594037927936 := by rw [hx]; exact numL_take_lt l j 7 (by omega)
      have hs := numL_take_snoc hl
      rw [← hx] at hs
      have hjn := join8 x l[j] hb
      have HX := hide hx
      have HS := hide hs
      have HB := hide hb
      have HJ := hide hjn
      clear hx hs hb hjn
      unfold byteV at hc
      obtain ⟨y, hy⟩ : ∃ y : Nat, y = l[j].toNat := ⟨_, rfl⟩
      rw [← hy] at hc HJ HS
      have hy256 : y < 256 := by rw [hy]; exact l[j].toNat_lt
      have HY := hide hy
      clear hy
      go_wp2
      go_round
      case rel => exact ⟨j + 1, x * 256 + y, by omega, by go_num, by rw [HJ.out], HS.out.symm⟩
      case measure => simp [intOf]; omega
    · obtain rfl : j = W := by omega
      have HX := hide hx
      clear hx
      go_wp2
      go_ret2
      rw [← HX.out]
      exact ⟨rfl, rfl⟩
def narrowF (n W : Nat) : Nat := n % 2 ^ (8 * W)
theorem ret_narrow {k : IntKind} {a a' n : Int} (h : a = a') : Ending.returned (.tuple #[.int k a, .bool (a == n)]) = .returned (.tuple #[.int k a', .bool (a' == n)]) := by rw [h]
theorem narrow_1 (n : Nat) : (n : Int) % 256 = (narrowF n 1 : Nat) := by simp only [narrowF]; omega
theorem narrow_2 (n : Nat) : IntKind.u64.wrap (IntKind.u16.wrap (n : Int)) = (narrowF n 2 : Nat) := by simp only [narrowF, IntKind.wrap_u64, IntKind.wrap_u16]; omega
theorem narrow_4 (n : Nat) : (n : Int) % 4294967296 = (narrowF n 4 : Nat) := by simp only [narrowF]; omega
theorem narrow_8 (n : Nat) (h : n < 18446744073709551616) : narrowF n 8 = n := Nat.mod_eq_of_lt h
theorem ret_narrow8 {n : Nat} (h : n < 18446744073709551616) : Ending.returned (.tuple #[.int .u64 (n : Int), .bool true]) = .returned (.tuple #[.int .u64 (narrowF n 8 : Nat), .bool ((narrowF n 8 : Int) == (n : Int))]) := by
  rw [narrow_8 n h]; simp
set_option maxRecDepth 100000 in
theorem narrow_any (n W : Nat) (w : World) (hn : n < 18446744073709551616) (hW : widthB (W : Int) = true) :
    Calls Tryd.prog 138 #[.int .u64 (n : Int), .int .i64 (W : Int)] w fun e w' => e = .returned (.tuple #[.int .u64 (narrowF n W : Nat), .bool ((narrowF n W : Int) == (n : Int))]) ∧ w = w' := by
  have hc := widthB_cases hW
  obtain rfl | rfl | rfl | rfl : W = 1 ∨ W = 2 ∨ W = 4 ∨ W = 8 := by omega
  all_goals clear hc hW
  all_goals go_enter Tryd.func138, Tryd.ntmps138
  all_goals go_wp2
  all_goals go_ret2
  · exact ⟨ret_narrow (narrow_1 n), rfl⟩
  · exact ⟨ret_narrow (narrow_2 n), rfl⟩
  · exact ⟨ret_narrow (narrow_4 n), rfl⟩
  · exact ⟨ret_narrow8 hn, rfl⟩
end Go.Proofs.YtjmkecaljkcoiaaDoor
