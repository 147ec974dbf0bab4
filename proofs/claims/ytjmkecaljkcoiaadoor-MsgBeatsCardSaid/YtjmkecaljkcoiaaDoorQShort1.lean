import Derived.Test.YtjmkecaljkcoiaaDoorQPut1
namespace Go.Proofs.YtjmkecaljkcoiaaDoor
open Go.RowKit
set_option linter.unusedVariables false
def getR : Nat → Nat → List UInt8 → Nat × Nat × Nat
  | _, _, [] => (0, 0, 2)
  | i, acc, c :: t =>
    if i = 9 ∧ 1 < c.toNat then (0, 0, 5)
    else if 128 ≤ c.toNat then getR (i + 1) (acc + c.toNat % 128 * 2 ^ (7 * i)) t
    else if c.toNat = 0 ∧ 0 < i then (0, 0, 5)
    else (acc + c.toNat % 128 * 2 ^ (7 * i), i + 1, 0)
def getF (l : List UInt8) : Nat × Nat × Nat := getR 0 0 l
structure GetInv (l : List UInt8) (j acc : Nat) : Prop where
  whole : getF l = getR j acc (l.drop j)
  upto : j ≤ 9
  small : acc < 2 ^ (7 * j)
theorem GetInv.start (l : List UInt8) : GetInv l 0 0 := ⟨rfl, by omega, by decide⟩
section
variable {l : List UInt8} {j acc y : Nat}
theorem GetInv.end_ (h : GetInv l j acc) (hj : l.length ≤ j) : getF l = (0, 0, 2) := by
  rw [h.whole, List.drop_eq_nil_of_le hj, getR]
theorem GetInv.form (h : GetInv l j acc) (hj : j < l.length) (hy : y = l[j].toNat) (h9 : j = 9) (h1 : 1 < y) : getF l = (0, 0, 5) := by
  rw [h.whole, List.drop_eq_getElem_cons hj, getR, if_pos ⟨h9, by omega⟩]
theorem GetInv.zero (h : GetInv l j acc) (hj : j < l.length) (hy : y = l[j].toNat) (h0 : y = 0) (h1 : 0 < j) : getF l = (0, 0, 5) := by
  rw [h.whole, List.drop_eq_getElem_cons hj, getR, if_neg (by omega), if_neg (by omega), if_pos ⟨by omega, h1⟩]
theorem GetInv.done (h : GetInv l j acc) (hj : j < l.length) (hy : y = l[j].toNat) (h9 : ¬ (j = 9 ∧ 1 < y)) (h1 : y < 128) (h2 : ¬ (y = 0 ∧ 0 < j)) : getF l = (acc + y % 128 * 2 ^ (7 * j), j + 1, 0) := by
  rw [h.whole, List.drop_eq_getElem_cons hj, getR, if_neg (by omega), if_neg (by omega), if_neg (by omega), ← hy]
theorem GetInv.step (h : GetInv l j acc) (hj : j < l.length) (hy : y = l[j].toNat) (h9 : ¬ (j = 9 ∧ 1 < y)) (h1 : 128 ≤ y) : GetInv l (j + 1) (acc + y % 128 * 2 ^ (7 * j)) := by
  have hs := h.small
  refine ⟨by rw [h.whole, List.drop_eq_getElem_cons hj, getR, if_neg (by omega), if_pos (by omega), ← hy], by have := h.upto; omega, ?_⟩
  have e : 2 ^ (7 * (j + 1)) = 128 * 2 ^ (7 * j) := by rw [show (128 : Nat) = 2 ^ 7 from rfl, ← Nat.pow_add]; congr 1; omega
  rw [e]
  have h3 : y % 128 * 2 ^ (7 * j) ≤ 127 * 2 ^ (7 * j) := Nat.mul_le_mul_right _ (by omega)
  omega
theorem GetInv.fits (h : GetInv l j acc) (hy : y < 256) (h9 : ¬ (j = 9 ∧ 1 < y)) : y % 128 * 2 ^ (7 * j) < 18446744073709551616 ∧ acc + y % 128 * 2 ^ (7 * j) < 18446744073709551616 ∧ acc < 18446744073709551616 ∧ 2 ^ (7 * j) < 18446744073709551616 := by
  have hs := h.small
  have hu := h.upto
  by_cases hj9 : j = 9
  · subst hj9
    have : y % 128 ≤ 1 := by omega
    simp only [show 7 * 9 = 63 from rfl] at *
    omega
  · have h2 : 2 ^ (7 * j) ≤ 2 ^ 56 := Nat.pow_le_pow_right (by decide) (by omega)
    have h3 : y % 128 * 2 ^ (7 * j) ≤ 127 * 2 ^ 56 := Nat.mul_le_mul (by omega) h2
    simp only [show (2 : Nat) ^ 56 = 72057594037927936 from rfl] at *
    omega
end
theorem or_code (acc y j : Nat) (h : acc < 2 ^ (7 * j)) (hy : y < 256) (h1 : y % 128 * 2 ^ (7 * j) < 18446744073709551616) (h2 : acc < 18446744073709551616) :
    bits .or .u64 (acc : Int) (IntKind.u64.wrap (IntKind.u64.wrap (bits .andNot .u8 (y : Int) 128) * 2 ^ (7 * j))) = ((acc + y % 128 * 2 ^ (7 * j) : Nat) : Int) := by
  have e1 : bits .andNot .u8 (y : Int) 128 = ((y % 128 : Nat) : Int) := by
    have := u8_andNot_nat y 128 hy (by omega)
    rw [show ((128 : Nat) : Int) = 128 from rfl] at this
    rw [this, show 255 - 128 = 127 from rfl, nat_mask7]
  rw [e1, IntKind.wrap_u64, IntKind.wrap_u64, show ((y % 128 : Nat) : Int) % 18446744073709551616 = ((y % 128 : Nat) : Int) from by omega]
  have e2 : ((y % 128 : Nat) : Int) * 2 ^ (7 * j) = ((y % 128 * 2 ^ (7 * j) : Nat) : Int) := by push_cast; rfl
  rw [e2, show ((y % 128 * 2 ^ (7 * j) : Nat) : Int) % 18446744073709551616 = ((y % 128 * 2 ^ (7 * j) : Nat) : Int) from by omega, u64_or_nat _ _ h2 h1, Nat.or_comm, nat_join (7 * j) _ _ (Nat.mul_mod_left _ _) h]
  omega
theorem getR_short (k i acc m : Nat) (t : List UInt8) (hk : i + k = 9) (hm : m < 2 * 128 ^ k) (h0 : 0 < i → 0 < m) :
    getR i acc (shortF k m ++ t) = (acc + m * 2 ^ (7 * i), i + (shortF k m).length, 0) := by
  induction k generalizing i acc m with
  | zero =>
    have hm2 : m < 2 := by simpa using hm
    rw [shortF, List.singleton_append, getR, lowB_toNat, if_neg (by omega), if_neg (by omega), if_neg (by omega)]
    simp
    rw [Nat.mod_eq_of_lt (by omega)]
  | succ k ih =>
    by_cases h : m < 128
    · rw [shortF_small _ _ h, List.singleton_append, getR, lowB_toNat, if_neg (by omega), if_neg (by omega), if_neg (by omega)]
      simp
      rw [Nat.mod_eq_of_lt (by omega)]
    · rw [shortF_big _ _ h, List.cons_append, getR, lowB_toNat, if_neg (by omega), if_pos (by omega), ih (i + 1) _ (m / 128) (by omega)]
      · have e : 2 ^ (7 * (i + 1)) = 128 * 2 ^ (7 * i) := by rw [show (128 : Nat) = 2 ^ 7 from rfl, ← Nat.pow_add]; congr 1; omega
        rw [e, show (m % 128 + 128) % 256 % 128 = m % 128 from by omega]
        refine Prod.ext ?_ (Prod.ext ?_ rfl)
        · simp only []
          rw [← Nat.mul_assoc, Nat.add_assoc, ← Nat.add_mul]
          congr 2
          omega
        · simp; omega
      · rw [Nat.div_lt_iff_lt_mul (by decide)]; rw [pow_two_128] at hm; exact hm
      · intro _; omega
theorem getF_short (n : Nat) (t : List UInt8) (h : n < 18446744073709551616) : getF (shortL n ++ t) = (n, (shortL n).length, 0) := by
  unfold getF shortL
  rw [getR_short 9 0 0 n t rfl (by omega) (by omega)]
  simp
theorem shortL_len (n : Nat) : 1 ≤ (shortL n).length ∧ (shortL n).length ≤ 10 := shortF_len 9 n
set_option maxRecDepth 100000 in
set_option maxHeartbeats 800000 in
theorem getShort_any (A : Option Addr) (n c : Nat) (l : List UInt8) (B : Nat) (w : World) (hA : Bs w B A n l) (hn : n ≤ maxLen) :
    Calls Tryd.prog 93 #[.slice A n c] w fun e w' => e = .returned (.tuple #[.int .u64 ((getF l).1 : Nat), .int .i64 ((getF l).2.1 : Nat), .int .i64 ((getF l).2.2 : Nat)]) ∧ w = w' := by
  unfold maxLen at hn
  have hlen := hA.len
  have HL := hide hlen
  clear hlen
  have H0 := GetInv.start l
  go_enter Tryd.func93, Tryd.ntmps93
  go_wp2
  go_loop [2, 9] (fun m i => ∃ j acc : Nat, i = .int .i64 j ∧ m = .int .u64 (acc : Int) ∧ j ≤ n ∧ GetInv l j acc) (fun _ i => n - (intOf i).toNat)
  case atStart => exact ⟨0, 0, rfl, rfl, Nat.zero_le _, H0⟩
  case round =>
    obtain ⟨j, acc, rfl, rfl, hjn, hinv⟩ := hrel
    have hj9 := hinv.upto
    by_cases hlt : j < n
    · obtain ⟨ad, hl, rfl, _, hc⟩ := hA.at_ hlt
      unfold byteV at hc
      obtain ⟨y, hy⟩ : ∃ y : Nat, y = l[j].toNat := ⟨_, rfl⟩
      rw [← hy] at hc
      have hy256 : y < 256 := by rw [hy]; exact l[j].toNat_lt
      have HY := hide hy
      clear hy
      by_cases h9 : j = 9 ∧ 1 < y
      · obtain ⟨hj, h1⟩ := h9
        have e := hinv.form hl HY.out hj h1
        have E := hide e
        have t9 : ((j : Int) == 9) = true := by rw [beq_iff_eq]; omega
        clear e hj
        go_wp2
        go_ret3
        rw [E.out]
        exact ⟨rfl, rfl⟩
      · have hf := hinv.fits hy256 h9
        have hor := or_code acc y j hinv.small hy256 hf.1 hf.2.2.1
        have HOR := hide hor
        have HF := hide hf
        clear hor hf
        have t9 : ((j : Int) == 9) = false ∨ j = 9 ∧ y ≤ 1 := by
          by_cases hj : j = 9
          · exact .inr ⟨hj, by omega⟩
          · exact .inl (by rw [beq_eq_false_iff_ne]; omega)
        by_cases h128 : 128 ≤ y
        · have t9' : ((j : Int) == 9) = false := by rw [beq_eq_false_iff_ne]; omega
          have hj8 : j ≤ 8 := by omega
          have hi := hinv.step hl HY.out h9 h128
          clear t9 h9
          go_wp2
          go_round
          case rel => exact ⟨j + 1, acc + y % 128 * 2 ^ (7 * j), by go_num, by rw [HOR.out], by omega, hi⟩
          case measure => simp [intOf]; omega
        · by_cases hz : y = 0 ∧ 0 < j
          · obtain ⟨h0, hj0⟩ := hz
            have e := hinv.zero hl HY.out h0 hj0
            have E := hide e
            have t0 : ((y : Int) == 0) = true := by rw [beq_iff_eq]; omega
            clear e h0
            have hyb : y ≤ 1 := by rw [beq_iff_eq] at t0; omega
            rcases t9 with t9 | ⟨hj, _⟩
            · go_wp2
              go_ret3
              rw [E.out]
              exact ⟨rfl, rfl⟩
            · have t9 : ((j : Int) == 9) = true := by rw [beq_iff_eq]; omega
              clear hj
              go_wp2
              go_ret3
              rw [E.out]
              exact ⟨rfl, rfl⟩
          · have e := hinv.done hl HY.out h9 (by omega) hz
            have E := hide e
            clear e
            have tz : ((y : Int) == 0) = false ∨ ((y : Int) == 0) = true ∧ j = 0 := by
              by_cases h0 : y = 0
              · exact .inr ⟨by rw [beq_iff_eq]; omega, by omega⟩
              · exact .inl (by rw [beq_eq_false_iff_ne]; omega)
            clear hz h9
            rcases t9 with t9 | ⟨hj, hy1⟩
            · rcases tz with tz | ⟨tz, hj0⟩
              · go_wp2
                go_ret3
                rw [E.out]
                exact ⟨by rw [HOR.out]; rfl, rfl⟩
              · have tj : decide ((0 : Int) < (j : Int)) = false := by simp; omega
                have hjz : j ≤ 0 := by omega
                clear hj0
                go_wp2
                go_ret3
                rw [E.out]
                exact ⟨by rw [HOR.out]; rfl, rfl⟩
            · have t9 : ((j : Int) == 9) = true := by rw [beq_iff_eq]; omega
              have hjp : 0 < j := by omega
              clear hj
              rcases tz with tz | ⟨tz, hj0⟩
              · go_wp2
                go_ret3
                rw [E.out]
                exact ⟨by rw [HOR.out]; rfl, rfl⟩
              · omega
    · have e := hinv.end_ (by rw [HL.out]; omega)
      have E := hide e
      clear e
      go_wp2
      go_ret3
      rw [E.out]
      exact ⟨rfl, rfl⟩
theorem add_code (acc y j u : Nat) (hu : u = 2 ^ (7 * j)) (h1 : acc + y % 128 * 2 ^ (7 * j) < 18446744073709551616) :
    IntKind.u64.wrap ((acc : Int) + IntKind.u64.wrap ((y : Int) % 128 * (u : Int))) = ((acc + y % 128 * 2 ^ (7 * j) : Nat) : Int) := by
  rw [hu]
  have e : (y : Int) % 128 * ((2 ^ (7 * j) : Nat) : Int) = ((y % 128 * 2 ^ (7 * j) : Nat) : Int) := by push_cast; rfl
  rw [e, IntKind.wrap_u64, IntKind.wrap_u64]
  omega
theorem unit_code (j u : Nat) (hu : u = 2 ^ (7 * j)) (hj : j ≤ 8) : IntKind.u64.wrap ((u : Int) * 128) = ((2 ^ (7 * (j + 1)) : Nat) : Int) := by
  have e : 2 ^ (7 * (j + 1)) = 2 ^ (7 * j) * 128 := by rw [show (128 : Nat) = 2 ^ 7 from rfl, ← Nat.pow_add]; congr 1
  have h : 2 ^ (7 * j) ≤ 2 ^ 56 := Nat.pow_le_pow_right (by decide) (by omega)
  rw [e, ← hu, IntKind.wrap_u64]
  rw [← hu, show (2 : Nat) ^ 56 = 72057594037927936 from rfl] at h
  omega
set_option maxRecDepth 100000 in
set_option maxHeartbeats 800000 in
theorem rgetShort_any (A : Option Addr) (n c : Nat) (l : List UInt8) (B : Nat) (w : World) (hA : Bs w B A n l) (hn : n ≤ maxLen) :
    Calls Tryd.prog 100 #[.slice A n c] w fun e w' => e = .returned (.tuple #[.int .u64 ((getF l).1 : Nat), .int .i64 ((getF l).2.1 : Nat), .int .i64 ((getF l).2.2 : Nat)]) ∧ w = w' := by
  unfold maxLen at hn
  have hlen := hA.len
  have HL := hide hlen
  clear hlen
  have H0 := GetInv.start l
  go_enter Tryd.func100, Tryd.ntmps100
  go_wp2
  go_loop [5, 6, 7] (fun m s i => ∃ j acc u : Nat, i = .int .i64 j ∧ m = .int .u64 (acc : Int) ∧ s = .int .u64 (u : Int) ∧ u = 2 ^ (7 * j) ∧ j ≤ n ∧ GetInv l j acc) (fun _ _ i => n - (intOf i).toNat)
  case atStart => exact ⟨0, 0, 1, rfl, rfl, rfl, rfl, Nat.zero_le _, H0⟩
  case round =>
    obtain ⟨j, acc, u, rfl, rfl, rfl, hu, hjn, hinv⟩ := hrel
    have hj9 := hinv.upto
    by_cases hlt : j < n
    · obtain ⟨ad, hl, rfl, _, hc⟩ := hA.at_ hlt
      unfold byteV at hc
      obtain ⟨y, hy⟩ : ∃ y : Nat, y = l[j].toNat := ⟨_, rfl⟩
      rw [← hy] at hc
      have hy256 : y < 256 := by rw [hy]; exact l[j].toNat_lt
      have HY := hide hy
      clear hy
      have HU := hide hu
      clear hu
      by_cases h9 : j = 9 ∧ 1 < y
      · obtain ⟨hj, h1⟩ := h9
        have e := hinv.form hl HY.out hj h1
        have E := hide e
        have t9 : ((j : Int) == 9) = true := by rw [beq_iff_eq]; omega
        clear e hj
        go_wp2
        go_ret3
        rw [E.out]
        exact ⟨rfl, rfl⟩
      · have hf := hinv.fits hy256 h9
        have hor := add_code acc y j u HU.out hf.2.1
        have HOR := hide hor
        have HF := hide hf
        clear hor hf
        have t9 : ((j : Int) == 9) = false ∨ j = 9 ∧ y ≤ 1 := by
          by_cases hj : j = 9
          · exact .inr ⟨hj, by omega⟩
          · exact .inl (by rw [beq_eq_false_iff_ne]; omega)
        by_cases h128 : 128 ≤ y
        · have t9' : ((j : Int) == 9) = false := by rw [beq_eq_false_iff_ne]; omega
          have hj8 : j ≤ 8 := by omega
          have hi := hinv.step hl HY.out h9 h128
          have HW := hide (unit_code j u HU.out hj8)
          clear t9 h9
          go_wp2
          go_round
          case rel => exact ⟨j + 1, acc + y % 128 * 2 ^ (7 * j), 2 ^ (7 * (j + 1)), by go_num, by rw [HOR.out], by rw [HW.out], rfl, by omega, hi⟩
          case measure => simp [intOf]; omega
        · by_cases hz : y = 0 ∧ 0 < j
          · obtain ⟨h0, hj0⟩ := hz
            have e := hinv.zero hl HY.out h0 hj0
            have E := hide e
            have t0 : ((y : Int) == 0) = true := by rw [beq_iff_eq]; omega
            clear e h0
            have hyb : y ≤ 1 := by rw [beq_iff_eq] at t0; omega
            rcases t9 with t9 | ⟨hj, _⟩
            · go_wp2
              go_ret3
              rw [E.out]
              exact ⟨rfl, rfl⟩
            · have t9 : ((j : Int) == 9) = true := by rw [beq_iff_eq]; omega
              clear hj
              go_wp2
              go_ret3
              rw [E.out]
              exact ⟨rfl, rfl⟩
          · have e := hinv.done hl HY.out h9 (by omega) hz
            have E := hide e
            clear e
            have tz : ((y : Int) == 0) = false ∨ ((y : Int) == 0) = true ∧ j = 0 := by
              by_cases h0 : y = 0
              · exact .inr ⟨by rw [beq_iff_eq]; omega, by omega⟩
              · exact .inl (by rw [beq_eq_false_iff_ne]; omega)
            clear hz h9
            rcases t9 with t9 | ⟨hj, hy1⟩
            · rcases tz with tz | ⟨tz, hj0⟩
              · go_wp2
                go_ret3
                rw [E.out]
                exact ⟨by rw [HOR.out]; rfl, rfl⟩
              · have tj : decide ((0 : Int) < (j : Int)) = false := by simp; omega
                have hjz : j ≤ 0 := by omega
                clear hj0
                go_wp2
                go_ret3
                rw [E.out]
                exact ⟨by rw [HOR.out]; rfl, rfl⟩
            · have t9 : ((j : Int) == 9) = true := by rw [beq_iff_eq]; omega
              have hjp : 0 < j := by omega
              clear hj
              rcases tz with tz | ⟨tz, hj0⟩
              · go_wp2
                go_ret3
                rw [E.out]
                exact ⟨by rw [HOR.out]; rfl, rfl⟩
              · omega
    · have e := hinv.end_ (by rw [HL.out]; omega)
      have E := hide e
      have HU := hide hu
      clear e hu
      go_wp2
      go_ret3
      rw [E.out]
      exact ⟨rfl, rfl⟩
set_option maxRecDepth 100000 in
theorem rshort_any (x : Nat) (w : World) (hx : x < 18446744073709551616) :
    Calls Tryd.prog 79 #[.int .u64 (x : Int)] w fun e w' => ∃ A c, e = .returned (.slice A (shortL x).length c) ∧ OwnB w' w.heap.size (.slice A (shortL x).length c) (shortL x).length (shortL x) ∧ Below w.heap.size w w' := by
  have H0 := ShortInv.start x 0 hx
  clear hx
  go_enter Tryd.func79, Tryd.ntmps79
  go_wp2
  go_loopw [0, 3] (fun i v wr => ∃ k m : Nat, ∃ d : List UInt8, ∃ q : Nat, ∃ A c, i = .int .u64 m ∧ v = .slice A q c ∧ ShortInv x 0 k m q d ∧
      OwnB wr w.heap.size (.slice A q c) q d ∧ Below w.heap.size w wr) (fun i _ _ => (intOf i).toNat)
  case atStart => exact ⟨9, x, [], 0, none, 0, rfl, rfl, H0, OwnB.nil_ _ _, Below.refl _ _⟩
  case round =>
    obtain ⟨k, m, d, q, A, c, rfl, rfl, hinv, hown, hb⟩ := hrel
    have hq := hinv.room
    have hsz := hb.size
    have hm64 := hinv.fits
    by_cases h1 : m < 128
    · go_wp2_with (at_builtin; refine wp_byte_own _ rfl (.tmp 15) (.tmp 18) rfl w.heap.size q _ _ rfl (hown.alloc _) wr.heap.size (lowB m) rfl ?c1 (by omega) w.heap.size w (hb.alloc (by omega) _) (Nat.le_refl _) ?c4 ?_)
      case c1 => exact cell_lit1 _ _ (by rw [byteV, lowB_toNat, Nat.mod_eq_of_lt (by omega)])
      case c4 => simp; omega
      intro g2 c2 w2 hown2 hb2 hsz2
      clear hown hb
      obtain ⟨e1, e2⟩ := hinv.stop h1
      have E1 := hide e1
      have E2 := hide e2
      clear e1 e2
      go_wp2
      go_ret
      have e3 := E2.out
      rw [Nat.zero_add] at e3
      rw [← e3, E1.out]
      exact ⟨_, _, rfl, hown2, hb2⟩
    · go_wp2_with (at_builtin; refine wp_byte_own _ rfl (.tmp 6) (.tmp 11) rfl w.heap.size q _ _ rfl (hown.alloc _) wr.heap.size (lowB (m % 128 + 128)) rfl ?d1 (by omega) w.heap.size w (hb.alloc (by omega) _) (Nat.le_refl _) ?d4 ?_)
      case d1 =>
        exact cell_lit1 _ _ (by rw [byteV, lowB_toNat, Nat.mod_eq_of_lt (by omega)]; congr 1)
      case d4 => simp; omega
      intro g2 c2 w2 hown2 hb2 hsz2
      clear hown hb
      obtain ⟨k2, _, hinv2⟩ := hinv.step h1
      go_wp2
      go_roundw
      case rel => exact ⟨k2, m / 128, _, q + 1, _, _, by go_num, rfl, hinv2, hown2, hb2⟩
      case measure => simp [intOf]; omega
end Go.Proofs.YtjmkecaljkcoiaaDoor
