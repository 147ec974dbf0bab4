/-
  Contracts of layer 5: ranks, their places; Has, With, Without; And, Or, Minus.
-/
import Derived.Outline
import Derived.Test.YthloamhodapmpaaQOpenF
import Derived.Test.YthloamhodapmpaaQPr
import Derived.Test.YthloamhodapmpaaQMaskM
namespace Go.Proofs.Ythloamhodapmpaa
open Go.RowKit
set_option linter.unusedVariables false
set_option linter.unusedSimpArgs false

/-- Is it a rank? -/
def rankB (x : Int) : Bool := decide (0 ≤ x) && decide (x < 128)
set_option maxRecDepth 100000 in
theorem rank_yes (r : Nat) (w : World) (hr : r < 128) :
    Calls Try.prog 84 #[.int .i64 (r : Int)] w fun e w' => e = .returned (.bool true) ∧ w = w' := by
  go_enter Try.func84, Try.ntmps84
  go_wp2
  go_ret
  exact ⟨ret_bool (decide_eq_true (by omega)), rfl⟩
set_option maxRecDepth 100000 in
theorem rank_no (x : Int) (w : World) (hr : ¬ (0 ≤ x ∧ x < 128)) :
    Calls Try.prog 84 #[.int .i64 x] w fun e w' => e = .returned (.bool false) ∧ w = w' := by
  by_cases h : 0 ≤ x
  · have h2 : ¬ x < 128 := fun hh => hr ⟨h, hh⟩
    go_enter Try.func84, Try.ntmps84
    go_wp2
    all_goals go_ret
    all_goals exact ⟨ret_bool (by first | rfl | (simp; done) | (simp; omega)), rfl⟩
  · go_enter Try.func84, Try.ntmps84
    go_wp2
    all_goals go_ret
    all_goals exact ⟨ret_bool (by first | rfl | (simp; done) | (simp; omega)), rfl⟩
theorem i64_and_63 (r : Nat) (hr : r < 128) : bits .and .i64 (r : Int) 63 = ((r % 64 : Nat) : Int) := by
  show IntKind.i64.wrap ((BitVec.ofInt 64 (r : Int) &&& BitVec.ofInt 64 63).toNat : Int) = _
  rw [BitVec.toNat_and, BitVec.ofInt_natCast, show BitVec.ofInt 64 63 = BitVec.ofNat 64 63 from rfl, BitVec.toNat_ofNat, BitVec.toNat_ofNat, Nat.mod_eq_of_lt (show r < 2 ^ 64 by omega), show 63 % 2 ^ 64 = 63 from rfl, nat_mask6, IntKind.wrap_i64]
  omega
theorem wrap_pow {r : Nat} (h : r < 64) : IntKind.u64.wrap ((2 : Int) ^ r) = ((2 ^ r : Nat) : Int) := by
  have hp := pow_lt64 h
  have e : ((2 ^ r : Nat) : Int) = (2 : Int) ^ r := by push_cast; rfl
  rw [IntKind.wrap_u64, ← e]
  generalize 2 ^ r = p at *
  omega
theorem ret_pair {a b c d : Value} (h1 : a = c) (h2 : b = d) : Ending.returned (.tuple #[a, b]) = .returned (.tuple #[c, d]) := by rw [h1, h2]
set_option maxRecDepth 100000 in
theorem place_lo (r : Nat) (w : World) (hr : r < 64) :
    Calls Try.prog 85 #[.int .i64 (r : Int)] w fun e w' => e = .returned (.tuple #[.int .i64 0, .int .u64 ((2 ^ r : Nat) : Int)]) ∧ w = w' := by
  have h1 := i64_and_63 r (by omega)
  rw [Nat.mod_eq_of_lt hr] at h1
  have hp := pow_lt64 hr
  go_enter Try.func85, Try.ntmps85
  go_wp2
  go_ret2
  exact ⟨ret_pair (a := .int .i64 ((r : Int) / 64)) (b := .int .u64 (IntKind.u64.wrap (2 ^ r))) (by congr 1; omega) (by rw [wrap_pow hr]), rfl⟩
set_option maxRecDepth 100000 in
theorem place_hi (r : Nat) (w : World) (h0 : ¬ r < 64) (hr : r < 128) :
    Calls Try.prog 85 #[.int .i64 (r : Int)] w fun e w' => e = .returned (.tuple #[.int .i64 1, .int .u64 ((2 ^ (r - 64) : Nat) : Int)]) ∧ w = w' := by
  have h1 := i64_and_63 r (by omega)
  obtain ⟨m, hm⟩ : ∃ m, m = r - 64 := ⟨_, rfl⟩
  have hm64 : m < 64 := by omega
  rw [show r % 64 = m from by omega] at h1
  rw [← hm]
  have HM := hide hm
  clear hm
  have hp := pow_lt64 hm64
  go_enter Try.func85, Try.ntmps85
  go_wp2
  go_ret2
  exact ⟨ret_pair (a := .int .i64 ((r : Int) / 64)) (b := .int .u64 (IntKind.u64.wrap (2 ^ m))) (by congr 1; omega) (by rw [wrap_pow hm64]), rfl⟩

/-! ### Has, With, Without -/
theorem has_bit (x r : Nat) (hx : x < 18446744073709551616) (hr : r < 64) : ((bits .and .u64 (x : Int) ((2 ^ r : Nat) : Int)) != 0) = x.testBit r := by
  rw [u64_and_nat x (2 ^ r) hx (pow_lt64 hr), nat_bit, Nat.testBit_eq_decide_div_mod_eq]
  have hp : 0 < 2 ^ r := Nat.pow_pos (by decide)
  rcases Nat.mod_two_eq_zero_or_one (x / 2 ^ r) with h | h
  · simp [h]
  · rw [h, Nat.one_mul]
    generalize 2 ^ r = p at *
    simp; omega
set_option maxRecDepth 100000 in
theorem with_any (a b r : Nat) (w : World) (ha : a < 18446744073709551616) (hb : b < 18446744073709551616) (hr : r < 128) :
    Calls Try.prog 66 #[.agg #[.int .u64 (a : Int), .int .u64 (b : Int)], .int .i64 (r : Int)] w fun e w' => e = .returned (.agg #[.int .u64 ((putA a r : Nat) : Int), .int .u64 ((putB b r : Nat) : Int)]) ∧ Below w.heap.size w w' := by
  by_cases h : r < 64
  · have e1 := u64_or_nat a (2 ^ r) ha (pow_lt64 h)
    have cp := fun W => place_lo r W h
    have e2 : putA a r = _ := if_pos h
    have e3 : putB b r = b := if_pos h
    rw [e3]
    rw [← e2] at e1
    generalize putA a r = q at *
    clear e2 e3
    generalize 2 ^ r = p at *
    go_enter Try.func66, Try.ntmps66
    go_wp2_with fail
    refine (rank_yes r _ hr).mono ?_
    rintro e w1 ⟨rfl, rfl⟩
    go_wp2_with fail
    refine (cp _).mono ?_
    rintro e w1 ⟨rfl, rfl⟩
    go_wp2
    refine bodyPost_ret (v := .agg #[.int .u64 (q : Int), .int .u64 (b : Int)]) (by simp [results, Try.results66, go_sem]) rfl ⟨rfl, ?_⟩
    exact (((Below.refl _ _).alloc (Nat.le_refl _) _).alloc (by simp) _)
  · have e1 := u64_or_nat b (2 ^ (r - 64)) hb (pow_lt64 (by omega))
    have cp := fun W => place_hi r W h hr
    have e2 : putB b r = _ := if_neg h
    have e3 : putA a r = a := if_neg h
    rw [e3]
    rw [← e2] at e1
    generalize putB b r = q at *
    clear e2 e3
    generalize 2 ^ (r - 64) = p at *
    go_enter Try.func66, Try.ntmps66
    go_wp2_with fail
    refine (rank_yes r _ hr).mono ?_
    rintro e w1 ⟨rfl, rfl⟩
    go_wp2_with fail
    refine (cp _).mono ?_
    rintro e w1 ⟨rfl, rfl⟩
    go_wp2
    refine bodyPost_ret (v := .agg #[.int .u64 (a : Int), .int .u64 (q : Int)]) (by simp [results, Try.results66, go_sem]) rfl ⟨rfl, ?_⟩
    exact (((Below.refl _ _).alloc (Nat.le_refl _) _).alloc (by simp) _)
theorem with_no (a b : Nat) (x : Int) (w : World) (hx : ¬ (0 ≤ x ∧ x < 128)) :
    Calls Try.prog 66 #[.agg #[.int .u64 (a : Int), .int .u64 (b : Int)], .int .i64 x] w fun e w' => e = .returned (.agg #[.int .u64 (a : Int), .int .u64 (b : Int)]) ∧ Below w.heap.size w w' := by
  go_enter Try.func66, Try.ntmps66
  go_wp2_with fail
  refine (rank_no x _ hx).mono ?_
  rintro e w1 ⟨rfl, rfl⟩
  go_wp2
  refine bodyPost_ret (v := .agg #[.int .u64 (a : Int), .int .u64 (b : Int)]) (by simp [results, Try.results66, go_sem]) rfl ⟨rfl, ?_⟩
  exact (((Below.refl _ _).alloc (Nat.le_refl _) _).alloc (by simp) _)
set_option maxRecDepth 100000 in
theorem mand_any (a b c d : Nat) (w : World) (ha : a < 18446744073709551616) (hb : b < 18446744073709551616) (hc : c < 18446744073709551616) (hd : d < 18446744073709551616) :
    Calls Try.prog 68 #[.agg #[.int .u64 (a : Int), .int .u64 (b : Int)], .agg #[.int .u64 (c : Int), .int .u64 (d : Int)]] w fun e w' => e = .returned (.agg #[.int .u64 ((a &&& c : Nat) : Int), .int .u64 ((b &&& d : Nat) : Int)]) ∧ Below w.heap.size w w' := by
  have e1 := u64_and_nat a c ha hc
  have e2 := u64_and_nat b d hb hd
  obtain ⟨x, hx⟩ : ∃ x, x = a &&& c := ⟨_, rfl⟩
  obtain ⟨y, hy⟩ : ∃ y, y = b &&& d := ⟨_, rfl⟩
  rw [← hx] at e1
  rw [← hy] at e2
  rw [← hx, ← hy]
  clear hx hy
  go_enter Try.func68, Try.ntmps68
  go_wp2
  refine bodyPost_ret (v := .agg #[.int .u64 (x : Int), .int .u64 (y : Int)]) (by simp [results, Try.results68, go_sem]) rfl ⟨rfl, ?_⟩
  exact ((((Below.refl _ _).alloc (Nat.le_refl _) _).alloc (by simp) _).alloc (by simp; omega) _)
set_option maxRecDepth 100000 in
theorem mor_any (a b c d : Nat) (w : World) (ha : a < 18446744073709551616) (hb : b < 18446744073709551616) (hc : c < 18446744073709551616) (hd : d < 18446744073709551616) :
    Calls Try.prog 69 #[.agg #[.int .u64 (a : Int), .int .u64 (b : Int)], .agg #[.int .u64 (c : Int), .int .u64 (d : Int)]] w fun e w' => e = .returned (.agg #[.int .u64 ((a ||| c : Nat) : Int), .int .u64 ((b ||| d : Nat) : Int)]) ∧ Below w.heap.size w w' := by
  have e1 := u64_or_nat a c ha hc
  have e2 := u64_or_nat b d hb hd
  obtain ⟨x, hx⟩ : ∃ x, x = a ||| c := ⟨_, rfl⟩
  obtain ⟨y, hy⟩ : ∃ y, y = b ||| d := ⟨_, rfl⟩
  rw [← hx] at e1
  rw [← hy] at e2
  rw [← hx, ← hy]
  clear hx hy
  go_enter Try.func69, Try.ntmps69
  go_wp2
  refine bodyPost_ret (v := .agg #[.int .u64 (x : Int), .int .u64 (y : Int)]) (by simp [results, Try.results69, go_sem]) rfl ⟨rfl, ?_⟩
  exact ((((Below.refl _ _).alloc (Nat.le_refl _) _).alloc (by simp) _).alloc (by simp; omega) _)
end Go.Proofs.Ythloamhodapmpaa
