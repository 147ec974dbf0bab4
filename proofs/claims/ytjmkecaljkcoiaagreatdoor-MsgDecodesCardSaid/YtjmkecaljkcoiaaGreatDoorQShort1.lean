import Derived.Test.YtjmkecaljkcoiaaGreatDoorQPut1
namespace Go.Proofs.YtjmkecaljkcoiaaGreatDoor
open Go.RowKit
set_option linter.unusedVariables false
def getR : Nat → Nat → List UInt8 → Nat × Nat × Nat
  | _, _, [] => (0, 0, 2)
  | i, acc, c :: t =>
    if i = 9 ∧ 1 < c.toNat then (0, 0, 5)
    else if 128 ≤ c.toNat then getR (i + 1) (acc + c.toNat % 128 * 2 ^ (7 * i)) t
    else if c.toNat = 0 ∧ 0 < i then (0, 0, 5)
    else (acc + c.toNat % 128 * 2 ^ (7 * i), i + 1, 0)
def getF (l : List UInt8) : Nat × Nat × Nat := getR 0 0 l
structure GetInv (l : List UInt8) (j acc : Nat) : Prop where
  whole : getF l = getR j acc (l.drop j)
  upto : j ≤ 9
  small : acc < 2 ^ (7 * j)
theorem GetInv.start (l : List UInt8) : GetInv l 0 0 := ⟨rfl, by omega, by decide⟩
section
variable {l : List UInt8} {j acc y : Nat}
theorem GetInv.end_ (h : GetInv l j acc) (hj : l.length ≤ j) : getF l = (0, 0, 2) := by
  rw [h.whole, List.drop_eq_nil_of_le hj, getR]
theorem GetInv.form (h : GetInv l j acc) (hj : j < l.length) (hy : y = l[j].toNat) (h9 : j = 9) (h1 : 1 < y) : getF l = (0, 0, 5) := by
  rw [h.whole, List.drop_eq_getElem_cons hj, getR, if_pos ⟨h9, by omega⟩]
theorem GetInv.zero (h : GetInv l j acc) (hj : j < l.length) (hy : y = l[j].toNat) (h0 : y = 0) (h1 : 0 < j) : getF l = (0, 0, 5) := by
  rw [h.whole, List.drop_eq_getElem_cons hj, getR, if_neg (by omega), if_neg (by omega), if_pos ⟨by omega, h1⟩]
theorem GetInv.done (h : GetInv l j acc) (hj : j < l.length) (hy : y = l[j].toNat) (h9 : ¬ (j = 9 ∧ 1 < y)) (h1 : y < 128) (h2 : ¬ (y = 0 ∧ 0 < j)) : getF l = (acc + y % 128 * 2 ^ (7 * j), j + 1, 0) := by
  rw [h.whole, List.drop_eq_getElem_cons hj, getR, if_neg (by omega), if_neg (by omega), if_neg (by omega), ← hy]
theorem GetInv.step (h : GetInv l j acc) (hj : j < l.length) (hy : y = l[j].toNat) (h9 : ¬ (j = 9 ∧ 1 < y)) (h1 : 128 ≤ y) : GetInv l (j + 1) (acc + y % 128 * 2 ^ (7 * j)) := by
  have hs := h.small
  refine ⟨by rw [h.whole, List.drop_eq_getElem_cons hj, getR, if_neg (by omega), if_pos (by omega), ← hy], by have := h.upto; omega, ?_⟩
  have e : 2 ^ (7 * (j + 1)) = 128 * 2 ^ (7 * j) := by rw [show (128 : Nat) = 2 ^ 7 from rfl, ← Nat.pow_add]; congr 1; omega
  rw [e]
  have h3 : y % 128 * 2 ^ (7 * j) ≤ 127 * 2 ^ (7 * j) := Nat.mul_le_mul_right _ (by omega)
  omega
theorem GetInv.fits (h : GetInv l j acc) (hy : y < 256) (h9 : ¬ (j = 9 ∧ 1 < y)) : y % 128 * 2 ^ (7 * j) < 18446744073709551616 ∧ acc + y % 128 * 2 ^ (7 * j) < 18446744073709551616 ∧ acc < 18446744073709551616 ∧ 2 ^ (7 * j) < 18446744073709551616 := by
  have hs := h.small
  have hu := h.upto
  by_cases hj9 : j = 9
  · subst hj9
    have : y % 128 ≤ 1 := by omega
    simp only [show 7 * 9 = 63 from rfl] at *
    omega
  · have h2 : 2 ^ (7 * j) ≤ 2 ^ 56 := Nat.pow_le_pow_right (by decide) (by omega)
    have h3 : y % 128 * 2 ^ (7 * j) ≤ 127 * 2 ^ 56 := Nat.mul_le_mul (by omega) h2
    simp only [show (2 : Nat) ^ 56 = 72057594037927936 from rfl] at *
    omega
end
theorem or_code (acc y j : Nat) (h : acc < 2 ^ (7 * j)) (hy : y < 256) (h1 : y % 128 * 2 ^ (7 * j) < 18446744073709551616) (h2 : acc < 18446744073709551616) :
    bits .or .u64 (acc : Int) (IntKind.u64.wrap (IntKind.u64.wrap (bits .andNot .u8 (y : Int) 128) * 2 ^ (7 * j))) = ((acc + y % 128 * 2 ^ (7 * j) : Nat) : Int) := by
  have e1 : bits .andNot .u8 (y : Int) 128 = ((y % 128 : Nat) : Int) := by
    have := u8_andNot_nat y 128 hy (by omega)
    rw [show ((128 : Nat) : Int) = 128 from rfl] at this
    rw [this, show 255 - 128 = 127 from rfl, nat_mask7]
  rw [e1, IntKind.wrap_u64, IntKind.wrap_u64, show ((y % 128 : Nat) : Int) % 18446744073709551616 = ((y % 128 : Nat) : Int) from by omega]
  have e2 : ((y % 128 : Nat) : Int) * 2 ^ (7 * j) = ((y % 128 * 2 ^ (7 * j) : Nat) : Int) := by push_cast; rfl
  rw [e2, show ((y % 128 * 2 ^ (7 * j) : Nat) : Int) % 18446744073709551616 = ((y % 128 * 2 ^ (7 * j) : Nat) : Int) from by omega, u64_or_nat _ _ h2 h1, Nat.or_comm, nat_join (7 * j) _ _ (Nat.mul_mod_left _ _) h]
  omega
theorem shortL_len (n : Nat) : 1 ≤ (shortL n).length ∧ (shortL n).length ≤ 10 := shortF_len 9 n
set_option maxRecDepth 100000 in
set_option maxHeartbeats 800000 in
theorem getShort_any (A : Option Addr) (n c : Nat) (l : List UInt8) (B : Nat) (w : World) (hA : Bs w B A n l) (hn : n ≤ maxLen) :
    Calls Tryz.prog 159 #[.slice A n c] w fun e w' => e = .returned (.tuple #[.int .u64 ((getF l).1 : Nat), .int .i64 ((getF l).2.1 : Nat), .int .i64 ((getF l).2.2 : Nat)]) ∧ w = w' := by
  unfold maxLen at hn
  have hlen := hA.len
  have HL := hide hlen
  clear hlen
  have H0 := GetInv.start l
  go_enter Tryz.func159, Tryz.ntmps159
  go_wp2
  go_loop [2, 9] (fun m i => ∃ j acc : Nat, i = .int .i64 j ∧ m = .int .u64 acc ∧ j ≤ n ∧ GetInv l j acc) (fun _ i => n - (intOf i).toNat)
  case atStart => exact ⟨0, 0, rfl, rfl, Nat.zero_le _, H0⟩
  case round =>
    obtain ⟨j, acc, rfl, rfl, hjn, hinv⟩ := hrel
    have hj9 := hinv.upto
    by_cases hlt : j < n
    · obtain ⟨ad, hl, rfl, _, hc⟩ := hA.at_ hlt
      unfold byteV at hc
      obtain ⟨y, hy⟩ : ∃ y : Nat, y = l[j].toNat := ⟨_, rfl⟩
      rw [← hy] at hc
      have hy256 : y < 256 := by rw [hy]; exact l[j].toNat_lt
      have HY := hide hy
      clear hy
      by_cases h9 : j = 9 ∧ 1 < y
      · obtain ⟨hj, h1⟩ := h9
        have e := hinv.form hl HY.out hj h1
        have E := hide e
        have t9 : ((j : Int) == 9) = true := by rw [beq_iff_eq]; omega
        clear e hj
        go_wp2
        go_ret3
        rw [E.out]
        exact ⟨rfl, rfl⟩
      · have hf := hinv.fits hy256 h9
        have hor := or_code acc y j hinv.small hy256 hf.1 hf.2.2.1
        have HOR := hide hor
        have HF := hide hf
        clear hor hf
        have t9 : ((j : Int) == 9) = false ∨ j = 9 ∧ y ≤ 1 := by
          by_cases hj : j = 9
          · exact .inr ⟨hj, by omega⟩
          · exact .inl (by rw [beq_eq_false_iff_ne]; omega)
        by_cases h128 : 128 ≤ y
        · have t9' : ((j : Int) == 9) = false := by rw [beq_eq_false_iff_ne]; omega
          have hj8 : j ≤ 8 := by omega
          have hi := hinv.step hl HY.out h9 h128
          clear t9 h9
          go_wp2
          go_round
          case rel => exact ⟨j + 1, acc + y % 128 * 2 ^ (7 * j), by go_num, by rw [HOR.out], by omega, hi⟩
          case measure => simp [intOf]; omega
        · by_cases hz : y = 0 ∧ 0 < j
          · obtain ⟨h0, hj0⟩ := hz
            have e := hinv.zero hl HY.out h0 hj0
            have E := hide e
            have t0 : ((y : Int) == 0) = true := by rw [beq_iff_eq]; omega
            clear e h0
            have hyb : y ≤ 1 := by rw [beq_iff_eq] at t0; omega
            rcases t9 with t9 | ⟨hj, _⟩
            · go_wp2
              go_ret3
              rw [E.out]
              exact ⟨rfl, rfl⟩
            · have t9 : ((j : Int) == 9) = true := by rw [beq_iff_eq]; omega
              clear hj
              go_wp2
              go_ret3
              rw [E.out]
              exact ⟨rfl, rfl⟩
          · have e := hinv.done hl HY.out h9 (by omega) hz
            have E := hide e
            clear e
            have tz : ((y : Int) == 0) = false ∨ ((y : Int) == 0) = true ∧ j = 0 := by
              by_cases h0 : y = 0
              · exact .inr ⟨by rw [beq_iff_eq]; omega, by omega⟩
              · exact .inl (by rw [beq_eq_false_iff_ne]; omega)
            clear hz h9
            rcases t9 with t9 | ⟨hj, hy1⟩
            · rcases tz with tz | ⟨tz, hj0⟩
              · go_wp2
                go_ret3
                rw [E.out]
                exact ⟨by rw [HOR.out]; rfl, rfl⟩
              · have tj : decide ((0 : Int) < (j : Int)) = false := by simp; omega
                have hjz : j ≤ 0 := by omega
                clear hj0
                go_wp2
                go_ret3
                rw [E.out]
                exact ⟨by rw [HOR.out]; rfl, rfl⟩
            · have t9 : ((j : Int) == 9) = true := by rw [beq_iff_eq]; omega
              have hjp : 0 < j := by omega
              clear hj
              rcases tz with tz | ⟨tz, hj0⟩
              · go_wp2
                go_ret3
                rw [E.out]
                exact ⟨by rw [HOR.out]; rfl, rfl⟩
              · omega
    · have e := hinv.end_ (by rw [HL.out]; omega)
      have E := hide e
      clear e
      go_wp2
      go_ret3
      rw [E.out]
      exact ⟨rfl, rfl⟩
theorem add_code (acc y j u : Nat) (hu : u = 2 ^ (7 * j)) (h1 : acc + y % 128 * 2 ^ (7 * j) < 18446744073709551616) :
    IntKind.u64.wrap ((acc : Int) + IntKind.u64.wrap ((y : Int) % 128 * (u : Int))) = ((acc + y % 128 * 2 ^ (7 * j) : Nat) : Int) := by
  rw [hu]
  have e : (y : Int) % 128 * ((2 ^ (7 * j) : Nat) : Int) = ((y % 128 * 2 ^ (7 * j) : Nat) : Int) := by push_cast; rfl
  rw [e, IntKind.wrap_u64, IntKind.wrap_u64]
  omega
theorem unit_code (j u : Nat) (hu : u = 2 ^ (7 * j)) (hj : j ≤ 8) : IntKind.u64.wrap ((u : Int) * 128) = ((2 ^ (7 * (j + 1)) : Nat) : Int) := by
  have e : 2 ^ (7 * (j + 1)) = 2 ^ (7 * j) * 128 := by rw [show (128 : Nat) = 2 ^ 7 from rfl, ← Nat.pow_add]; congr 1
  have h : 2 ^ (7 * j) ≤ 2 ^ 56 := Nat.pow_le_pow_right (by decide) (by omega)
  rw [e, ← hu, IntKind.wrap_u64]
  rw [← hu, show (2 : Nat) ^ 56 = 72057594037927936 from rfl] at h
  omega
set_option maxRecDepth 100000 in
set_option maxHeartbeats 800000 in
theorem rgetShort_any (A : Option Addr) (n c : Nat) (l : List UInt8) (B : Nat) (w : World) (hA : Bs w B A n l) (hn : n ≤ maxLen) :
    Calls Tryz.prog 114 #[.slice A n c] w fun e w' => e = .returned (.tuple #[.int .u64 ((getF l).1 : Nat), .int .i64 ((getF l).2.1 : Nat), .int .i64 ((getF l).2.2 : Nat)]) ∧ w = w' := by
  unfold maxLen at hn
  have hlen := hA.len
  have HL := hide hlen
  clear hlen
  have H0 := GetInv.start l
  go_enter Tryz.func114, Tryz.ntmps114
  go_wp2
  go_loop [5, 6, 7] (fun m s i => ∃ j acc u : Nat, i = .int .i64 j ∧ m = .int .u64 acc ∧ s = .int .u64 u ∧ u = 2 ^ (7 * j) ∧ j ≤ n ∧ GetInv l j acc) (fun _ _ i => n - (intOf i).toNat)
  case atStart => exact ⟨0, 0, 1, rfl, rfl, rfl, rfl, Nat.zero_le _, H0⟩
  case round =>
    obtain ⟨j, acc, u, rfl, rfl, rfl, hu, hjn, hinv⟩ := hrel
    have hj9 := hinv.upto
    by_cases hlt : j < n
    · obtain ⟨ad, hl, rfl, _, hc⟩ := hA.at_ hlt
      unfold byteV at hc
      obtain ⟨y, hy⟩ : ∃ y : Nat, y = l[j].toNat := ⟨_, rfl⟩
      rw [← hy] at hc
      have hy256 : y < 256 := by rw [hy]; exact l[j].toNat_lt
      have HY := hide hy
      clear hy
      have HU := hide hu
      clear hu
      by_cases h9 : j = 9 ∧ 1 < y
      · obtain ⟨hj, h1⟩ := h9
        have e := hinv.form hl HY.out hj h1
        have E := hide e
        have t9 : ((j : Int) == 9) = true := by rw [beq_iff_eq]; omega
        clear e hj
        go_wp2
        go_ret3
        rw [E.out]
        exact ⟨rfl, rfl⟩
      · have hf := hinv.fits hy256 h9
        have hor := add_code acc y j u HU.out hf.2.1
        have HOR := hide hor
        have HF := hide hf
        clear hor hf
        have t9 : ((j : Int) == 9) = false ∨ j = 9 ∧ y ≤ 1 := by
          by_cases hj : j = 9
          · exact .inr ⟨hj, by omega⟩
          · exact .inl (by rw [beq_eq_false_iff_ne]; omega)
        by_cases h128 : 128 ≤ y
        · have t9' : ((j : Int) == 9) = false := by rw [beq_eq_false_iff_ne]; omega
          have hj8 : j ≤ 8 := by omega
          have hi := hinv.step hl HY.out h9 h128
          have HW := hide (unit_code j u HU.out hj8)
          clear t9 h9
          go_wp2
          go_round
          case rel => exact ⟨j + 1, acc + y % 128 * 2 ^ (7 * j), 2 ^ (7 * (j + 1)), by go_num, by rw [HOR.out], by rw [HW.out], rfl, by omega, hi⟩
          case measure => simp [intOf]; omega
        · by_cases hz : y = 0 ∧ 0 < j
          · obtain ⟨h0, hj0⟩ := hz
            have e := hinv.zero hl HY.out h0 hj0
            have E := hide e
            have t0 : ((y : Int) == 0) = true := by rw [beq_iff_eq]; omega
            clear e h0
            have hyb : y ≤ 1 := by rw [beq_iff_eq] at t0; omega
            rcases t9 with t9 | ⟨hj, _⟩
            · go_wp2
              go_ret3
              rw [E.out]
              exact ⟨rfl, rfl⟩
            · have t9 : ((j : Int) == 9) = true := by rw [beq_iff_eq]; omega
              clear hj
              go_wp2
              go_ret3
              rw [E.out]
              exact ⟨rfl, rfl⟩
          · have e := hinv.done hl HY.out h9 (by omega) hz
            have E := hide e
            clear e
            have tz : ((y : Int) == 0) = false ∨ ((y : Int) == 0) = true ∧ j = 0 := by
              by_cases h0 : y = 0
              · exact .inr ⟨by rw [beq_iff_eq]; omega, by omega⟩
              · exact .inl (by rw [beq_eq_false_iff_ne]; omega)
            clear hz h9
            rcases t9 with t9 | ⟨hj, hy1⟩
            · rcases tz with tz | ⟨tz, hj0⟩
              · go_wp2
                go_ret3
                rw [E.out]
                exact ⟨by rw [HOR.out]; rfl, rfl⟩
              · have tj : decide ((0 : Int) < (j : Int)) = false := by simp; omega
                have hjz : j ≤ 0 := by omega
                clear hj0
                go_wp2
                go_ret3
                rw [E.out]
                exact ⟨by rw [HOR.out]; rfl, rfl⟩
            · have t9 : ((j : Int) == 9) = true := by rw [beq_iff_eq]; omega
              have hjp : 0 < j := by omega
              clear hj
              rcases tz with tz | ⟨tz, hj0⟩
              · go_wp2
                go_ret3
                rw [E.out]
                exact ⟨by rw [HOR.out]; rfl, rfl⟩
              · omega
    · have e := hinv.end_ (by rw [HL.out]; omega)
      have E := hide e
      have HU := hide hu
      clear e hu
      go_wp2
      go_ret3
      rw [E.out]
      exact ⟨rfl, rfl⟩
end Go.Proofs.YtjmkecaljkcoiaaGreatDoor
