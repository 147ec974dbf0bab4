import Derived.Outline
import Derived.Test.YtjmkecaljkcoiaaDoorQOpenF
import Derived.Test.YtjmkecaljkcoiaaDoorQPr
import Derived.Test.YtjmkecaljkcoiaaDoorQMaskM
import Derived.Deep.WholeRow
namespace Go.Proofs.YtjmkecaljkcoiaaDoor
open Go.RowKit
set_option linter.unusedVariables false
set_option linter.unusedSimpArgs false
def rankB (x : Int) : Bool := decide (0 ≤ x) && decide (x < 128)
set_option maxRecDepth 100000 in
theorem rank_yes (r : Nat) (w : World) (hr : r < 128) :
    Calls Tryd.prog 143 #[.int .i64 (r : Int)] w fun e w' => e = .returned (.bool true) ∧ w = w' := by
  go_enter Tryd.func143, Tryd.ntmps143
  go_wp2
  go_ret
  exact ⟨ret_bool (decide_eq_true (by omega)), rfl⟩
theorem i64_and_63 (r : Nat) (hr : r < 128) : bits .and .i64 (r : Int) 63 = ((r % 64 : Nat) : Int) := by
  show IntKind.i64.wrap ((BitVec.ofInt 64 (r : Int) &&& BitVec.ofInt 64 63).toNat : Int) = _
  rw [BitVec.toNat_and, BitVec.ofInt_natCast, show BitVec.ofInt 64 63 = BitVec.ofNat 64 63 from rfl, BitVec.toNat_ofNat, BitVec.toNat_ofNat, Nat.mod_eq_of_lt (show r < 2 ^ 64 by omega), show 63 % 2 ^ 64 = 63 from rfl, nat_mask6, IntKind.wrap_i64]
  omega
theorem wrap_pow {r : Nat} (h : r < 64) : IntKind.u64.wrap ((2 : Int) ^ r) = ((2 ^ r : Nat) : Int) := by
  have hp := pow_lt64 h
  have e : ((2 ^ r : Nat) : Int) = (2 : Int) ^ r := by push_cast; rfl
  rw [IntKind.wrap_u64, ← e]
  generalize 2 ^ r = p at *
  omega
theorem ret_pair {a b c d : Value} (h1 : a = c) (h2 : b = d) : Ending.returned (.tuple #[a, b]) = .returned (.tuple #[c, d]) := by rw [h1, h2]
set_option maxRecDepth 100000 in
theorem place_lo (r : Nat) (w : World) (hr : r < 64) :
    Calls Tryd.prog 144 #[.int .i64 (r : Int)] w fun e w' => e = .returned (.tuple #[.int .i64 0, .int .u64 ((2 ^ r : Nat) : Int)]) ∧ w = w' := by
  have h1 := i64_and_63 r (by omega)
  rw [Nat.mod_eq_of_lt hr] at h1
  have hp := pow_lt64 hr
  go_enter Tryd.func144, Tryd.ntmps144
  go_wp2
  go_ret2
  exact ⟨ret_pair (a := .int .i64 ((r : Int) / 64)) (b := .int .u64 (IntKind.u64.wrap (2 ^ r))) (by congr 1; omega) (by rw [wrap_pow hr]), rfl⟩
set_option maxRecDepth 100000 in
theorem place_hi (r : Nat) (w : World) (h0 : ¬ r < 64) (hr : r < 128) :
    Calls Tryd.prog 144 #[.int .i64 (r : Int)] w fun e w' => e = .returned (.tuple #[.int .i64 1, .int .u64 ((2 ^ (r - 64) : Nat) : Int)]) ∧ w = w' := by
  have h1 := i64_and_63 r (by omega)
  obtain ⟨m, hm⟩ : ∃ m, m = r - 64 := ⟨_, rfl⟩
  have hm64 : m < 64 := by omega
  rw [show r % 64 = m from by omega] at h1
  rw [← hm]
  have HM := hide hm
  clear hm
  have hp := pow_lt64 hm64
  go_enter Tryd.func144, Tryd.ntmps144
  go_wp2
  go_ret2
  exact ⟨ret_pair (a := .int .i64 ((r : Int) / 64)) (b := .int .u64 (IntKind.u64.wrap (2 ^ m))) (by congr 1; omega) (by rw [wrap_pow hm64]), rfl⟩
set_option maxRecDepth 100000 in
theorem with_any (a b r : Nat) (w : World) (ha : a < 18446744073709551616) (hb : b < 18446744073709551616) (hr : r < 128) :
    Calls Tryd.prog 131 #[.agg #[.int .u64 (a : Int), .int .u64 (b : Int)], .int .i64 (r : Int)] w fun e w' => e = .returned (.agg #[.int .u64 ((putA a r : Nat) : Int), .int .u64 ((putB b r : Nat) : Int)]) ∧ Below w.heap.size w w' := by
  by_cases h : r < 64
  · have e1 := u64_or_nat a (2 ^ r) ha (pow_lt64 h)
    have cp := fun W => place_lo r W h
    have e2 : putA a r = _ := if_pos h
    have e3 : putB b r = b := if_pos h
    rw [e3]
    rw [← e2] at e1
    generalize putA a r = q at *
    clear e2 e3
    generalize 2 ^ r = p at *
    go_enter Tryd.func131, Tryd.ntmps131
    go_wp2_with fail
    refine (rank_yes r _ hr).mono ?_
    rintro e w1 ⟨rfl, rfl⟩
    go_wp2_with fail
    refine (cp _).mono ?_
    rintro e w1 ⟨rfl, rfl⟩
    go_wp2
    refine bodyPost_ret (v := .agg #[.int .u64 (q : Int), .int .u64 (b : Int)]) (by simp [results, Tryd.results131, go_sem]) rfl ⟨rfl, ?_⟩
    exact (((Below.refl _ _).alloc (Nat.le_refl _) _).alloc (by simp) _)
  · have e1 := u64_or_nat b (2 ^ (r - 64)) hb (pow_lt64 (by omega))
    have cp := fun W => place_hi r W h hr
    have e2 : putB b r = _ := if_neg h
    have e3 : putA a r = a := if_neg h
    rw [e3]
    rw [← e2] at e1
    generalize putB b r = q at *
    clear e2 e3
    generalize 2 ^ (r - 64) = p at *
    go_enter Tryd.func131, Tryd.ntmps131
    go_wp2_with fail
    refine (rank_yes r _ hr).mono ?_
    rintro e w1 ⟨rfl, rfl⟩
    go_wp2_with fail
    refine (cp _).mono ?_
    rintro e w1 ⟨rfl, rfl⟩
    go_wp2
    refine bodyPost_ret (v := .agg #[.int .u64 (a : Int), .int .u64 (q : Int)]) (by simp [results, Tryd.results131, go_sem]) rfl ⟨rfl, ?_⟩
    exact (((Below.refl _ _).alloc (Nat.le_refl _) _).alloc (by simp) _)
set_option maxRecDepth 100000 in
theorem mand_any (a b c d : Nat) (w : World) (ha : a < 18446744073709551616) (hb : b < 18446744073709551616) (hc : c < 18446744073709551616) (hd : d < 18446744073709551616) :
    Calls Tryd.prog 134 #[.agg #[.int .u64 (a : Int), .int .u64 (b : Int)], .agg #[.int .u64 (c : Int), .int .u64 (d : Int)]] w fun e w' => e = .returned (.agg #[.int .u64 ((a &&& c : Nat) : Int), .int .u64 ((b &&& d : Nat) : Int)]) ∧ Below w.heap.size w w' := by
  have e1 := u64_and_nat a c ha hc
  have e2 := u64_and_nat b d hb hd
  obtain ⟨x, hx⟩ : ∃ x, x = a &&& c := ⟨_, rfl⟩
  obtain ⟨y, hy⟩ : ∃ y, y = b &&& d := ⟨_, rfl⟩
  rw [← hx] at e1
  rw [← hy] at e2
  rw [← hx, ← hy]
  clear hx hy
  go_enter Tryd.func134, Tryd.ntmps134
  go_wp2
  refine bodyPost_ret (v := .agg #[.int .u64 (x : Int), .int .u64 (y : Int)]) (by simp [results, Tryd.results134, go_sem]) rfl ⟨rfl, ?_⟩
  exact ((((Below.refl _ _).alloc (Nat.le_refl _) _).alloc (by simp) _).alloc (by simp; omega) _)
set_option maxRecDepth 100000 in
theorem mor_any (a b c d : Nat) (w : World) (ha : a < 18446744073709551616) (hb : b < 18446744073709551616) (hc : c < 18446744073709551616) (hd : d < 18446744073709551616) :
    Calls Tryd.prog 135 #[.agg #[.int .u64 (a : Int), .int .u64 (b : Int)], .agg #[.int .u64 (c : Int), .int .u64 (d : Int)]] w fun e w' => e = .returned (.agg #[.int .u64 ((a ||| c : Nat) : Int), .int .u64 ((b ||| d : Nat) : Int)]) ∧ Below w.heap.size w w' := by
  have e1 := u64_or_nat a c ha hc
  have e2 := u64_or_nat b d hb hd
  obtain ⟨x, hx⟩ : ∃ x, x = a ||| c := ⟨_, rfl⟩
  obtain ⟨y, hy⟩ : ∃ y, y = b ||| d := ⟨_, rfl⟩
  rw [← hx] at e1
  rw [← hy] at e2
  rw [← hx, ← hy]
  clear hx hy
  go_enter Tryd.func135, Tryd.ntmps135
  go_wp2
  refine bodyPost_ret (v := .agg #[.int .u64 (x : Int), .int .u64 (y : Int)]) (by simp [results, Tryd.results135, go_sem]) rfl ⟨rfl, ?_⟩
  exact ((((Below.refl _ _).alloc (Nat.le_refl _) _).alloc (by simp) _).alloc (by simp; omega) _)
end Go.Proofs.YtjmkecaljkcoiaaDoor
namespace Go.Proofs.YtjmkecaljkcoiaaDoor
open Go.RowKit
set_option linter.unusedVariables false
set_option linter.unusedSimpArgs false
theorem wrap_ones {r : Nat} (h : r < 64) : IntKind.u64.wrap (IntKind.u64.wrap ((2 : Int) ^ r) - 1) = ((2 ^ r - 1 : Nat) : Int) := by
  have hp := pow_lt64 h
  have h1 : 0 < 2 ^ r := Nat.pow_pos (by decide)
  rw [wrap_pow h, IntKind.wrap_u64]
  generalize 2 ^ r = p at *
  omega
set_option maxRecDepth 100000 in
theorem run_any (k : Nat) (w : World) (hk : k ≤ 64) :
    Calls Tryd.prog 145 #[.int .i64 (k : Int)] w fun e w' => e = .returned (.int .u64 ((2 ^ k - 1 : Nat) : Int)) ∧ w = w' := by
  by_cases h : k = 64
  · subst h
    go_enter Tryd.func145, Tryd.ntmps145
    go_wp2
    go_ret
    exact ⟨ret_int (by decide), rfl⟩
  · have hp := wrap_ones (r := k) (by omega)
    go_enter Tryd.func145, Tryd.ntmps145
    go_wp2
    go_ret
    exact ⟨ret_int (by first | rfl | exact hp), rfl⟩
set_option maxRecDepth 100000 in
theorem first_any (k : Nat) (w : World) (hk : k ≤ 128) :
    Calls Tryd.prog 136 #[.int .i64 (k : Int)] w fun e w' => e = .returned (.agg #[.int .u64 ((fstA k : Nat) : Int), .int .u64 ((fstB k : Nat) : Int)]) ∧ Below w.heap.size w w' := by
  rcases Nat.lt_trichotomy k 64 with h | h | h
  · have c1 := fun W => run_any k W (by omega)
    have c2 := fun W => run_any 0 W (by decide)
    rw [show fstA k = 2 ^ k - 1 from by unfold fstA; rw [Nat.min_eq_left (show k ≤ 64 by omega)], show fstB k = 2 ^ 0 - 1 from by unfold fstB; rw [Nat.sub_eq_zero_of_le (show k ≤ 64 by omega)]]
    generalize 2 ^ k - 1 = p at *
    generalize 2 ^ 0 - 1 = q at *
    have h1 : ¬ 0 ≤ (k : Int) - 64 := by omega
    go_enter Tryd.func136, Tryd.ntmps136
    go_wp2_with fail
    refine (c1 _).mono ?_
    rintro e w1 ⟨rfl, rfl⟩
    go_wp2_with fail
    refine (c2 _).mono ?_
    rintro e w1 ⟨rfl, rfl⟩
    go_wp2
    refine bodyPost_ret (v := .agg #[.int .u64 (p : Int), .int .u64 (q : Int)]) (by simp [results, Tryd.results136, go_sem]) rfl ⟨rfl, ?_⟩
    exact ((Below.refl _ _).alloc (Nat.le_refl _) _)
  · subst h
    have c1 := fun W => run_any 64 W (by omega)
    have c2 := fun W => run_any 0 W (by decide)
    rw [show fstA 64 = 2 ^ 64 - 1 from rfl, show fstB 64 = 2 ^ 0 - 1 from rfl]
    generalize 2 ^ 64 - 1 = p at *
    generalize 2 ^ 0 - 1 = q at *
    go_enter Tryd.func136, Tryd.ntmps136
    go_wp2_with fail
    refine (c1 _).mono ?_
    rintro e w1 ⟨rfl, rfl⟩
    go_wp2_with fail
    refine (c2 _).mono ?_
    rintro e w1 ⟨rfl, rfl⟩
    go_wp2
    refine bodyPost_ret (v := .agg #[.int .u64 (p : Int), .int .u64 (q : Int)]) (by simp [results, Tryd.results136, go_sem]) rfl ⟨rfl, ?_⟩
    exact ((Below.refl _ _).alloc (Nat.le_refl _) _)
  · obtain ⟨m, rfl⟩ : ∃ m, k = m + 64 := ⟨k - 64, by omega⟩
    have c1 := fun W => run_any 64 W (by omega)
    have c2 := fun W => run_any m W (by omega)
    rw [show fstA (m + 64) = 2 ^ 64 - 1 from by unfold fstA; rw [Nat.min_eq_right (by omega)], show fstB (m + 64) = 2 ^ m - 1 from by unfold fstB; rw [Nat.add_sub_cancel]]
    generalize 2 ^ 64 - 1 = p at *
    generalize 2 ^ m - 1 = q at *
    have h1 : ¬ ((m + 64 : Nat) : Int) ≤ 64 := by omega
    have h2 : 0 ≤ ((m + 64 : Nat) : Int) - 64 := by omega
    have h3 : ((m + 64 : Nat) : Int) - 64 = (m : Int) := by omega
    go_enter Tryd.func136, Tryd.ntmps136
    go_wp2_with fail
    refine (c1 _).mono ?_
    rintro e w1 ⟨rfl, rfl⟩
    go_wp2_with fail
    refine (c2 _).mono ?_
    rintro e w1 ⟨rfl, rfl⟩
    go_wp2
    refine bodyPost_ret (v := .agg #[.int .u64 (p : Int), .int .u64 (q : Int)]) (by simp [results, Tryd.results136, go_sem]) rfl ⟨rfl, ?_⟩
    exact ((Below.refl _ _).alloc (Nat.le_refl _) _)
def popTo (a b : Nat) : Nat → Nat
  | 0 => 0
  | 1 => popW a
  | _ => popW a + popW b
theorem and_one (y : Nat) (hy : y < 18446744073709551616) : bits .and .u64 (y : Int) 1 = ((y % 2 : Nat) : Int) := by
  have := u64_and_nat y 1 hy (by decide)
  rw [nat_mask1] at this
  exact this
theorem index_0 (a b : Nat) (w : World) : (Instr.index 162 (.agg #[.int .u64 (a : Int), .int .u64 (b : Int)]) (.int .i64 0)).run Tryd.prog w = .ok (.int .u64 (a : Int)) w := by
  simp [Instr.index, go_sem, asIntOf, part]
theorem index_1 (a b : Nat) (w : World) : (Instr.index 162 (.agg #[.int .u64 (a : Int), .int .u64 (b : Int)]) (.int .i64 1)).run Tryd.prog w = .ok (.int .u64 (b : Int)) w := by
  simp [Instr.index, go_sem, asIntOf, part]
set_option maxRecDepth 100000 in
theorem count_any (a b : Nat) (w : World) (ha : a < 18446744073709551616) (hb : b < 18446744073709551616) :
    Calls Tryd.prog 132 #[.agg #[.int .u64 (a : Int), .int .u64 (b : Int)]] w fun e w' => e = .returned (.int .i64 (popM a b : Nat)) ∧ Below w.heap.size w w' := by
  rw [popM_eq]
  have hbw : Below w.heap.size w (w.alloc (.cells #[.int .u64 (a : Int), .int .u64 (b : Int)] 162)) := (Below.refl _ _).alloc (Nat.le_refl _) _
  have hX0 := index_0 a b
  have hX1 := index_1 a b
  go_enter Tryd.func132, Tryd.ntmps132
  go_wp2
  go_loop [3, 7] (fun v i => ∃ j n : Nat, j ≤ 2 ∧ i = .int .i64 j ∧ v = .int .i64 n ∧ n = popTo a b j) (fun _ i => 2 - (intOf i).toNat)
  case atStart => exact ⟨0, 0, by omega, rfl, rfl, rfl⟩
  case round =>
    obtain ⟨j, n, hj, rfl, rfl, hn⟩ := hrel
    have HN := hide hn
    clear hn
    obtain rfl | rfl | rfl : j = 0 ∨ j = 1 ∨ j = 2 := by omega
    · have h0 := PopInv.start a n
      have hn0 : n ≤ 64 := by rw [HN.out]; have := popW_le a; simp only [popTo]; omega
      go_wp2
      go_loop [3, 5] (fun v y => ∃ j n' y' : Nat, v = .int .i64 n' ∧ y = .int .u64 y' ∧ PopInv a n j n' y') (fun _ y => (intOf y).toNat)
      case atStart => exact ⟨0, n, a, rfl, rfl, h0⟩
      case round =>
        obtain ⟨j, n', y', rfl, rfl, hinv⟩ := hrel
        have hs := hinv.small
        have hf := hinv.fits ha
        by_cases hy : y' = 0
        · subst hy
          have e := hinv.stop
          have HE := hide e
          clear e
          go_wp2
          go_round
          case rel => exact ⟨1, n', by omega, by go_num, rfl, by rw [HE.out, HN.out]; simp [popTo]⟩
          case measure => simp [intOf]
        · have hy' : ((y' : Int) != 0) = true := by simp only [bne_iff_ne, ne_eq]; omega
          have hi := hinv.step ha hy
          have ho := and_one y' hf
          obtain ⟨d, hd⟩ : ∃ d, d = y' % 2 := ⟨_, rfl⟩
          have hd2 : d < 2 := by omega
          rw [← hd] at ho hi
          clear hd
          go_wp2
          go_round
          case rel => exact ⟨j + 1, n' + d, y' / 2, by go_num, by go_num, hi⟩
          case measure => simp [intOf]; omega
    · have h0 := PopInv.start b n
      have hn0 : n ≤ 64 := by rw [HN.out]; have := popW_le a; simp only [popTo]; omega
      go_wp2
      go_loop [3, 5] (fun v y => ∃ j n' y' : Nat, v = .int .i64 n' ∧ y = .int .u64 y' ∧ PopInv b n j n' y') (fun _ y => (intOf y).toNat)
      case atStart => exact ⟨0, n, b, rfl, rfl, h0⟩
      case round =>
        obtain ⟨j, n', y', rfl, rfl, hinv⟩ := hrel
        have hs := hinv.small
        have hf := hinv.fits hb
        by_cases hy : y' = 0
        · subst hy
          have e := hinv.stop
          have HE := hide e
          clear e
          go_wp2
          go_round
          case rel => exact ⟨2, n', by omega, by go_num, rfl, by rw [HE.out, HN.out]; simp [popTo]⟩
          case measure => simp [intOf]
        · have hy' : ((y' : Int) != 0) = true := by simp only [bne_iff_ne, ne_eq]; omega
          have hi := hinv.step hb hy
          have ho := and_one y' hf
          obtain ⟨d, hd⟩ : ∃ d, d = y' % 2 := ⟨_, rfl⟩
          have hd2 : d < 2 := by omega
          rw [← hd] at ho hi
          clear hd
          go_wp2
          go_round
          case rel => exact ⟨j + 1, n' + d, y' / 2, by go_num, by go_num, hi⟩
          case measure => simp [intOf]; omega
    · go_wp2
      go_ret
      exact ⟨ret_int (by rw [HN.out]; rfl), hbw⟩
end Go.Proofs.YtjmkecaljkcoiaaDoor
namespace Go.Proofs.YtjmkecaljkcoiaaDoor
open Go.RowKit
set_option linter.unusedVariables false
set_option linter.unusedSimpArgs false
end Go.Proofs.YtjmkecaljkcoiaaDoor
namespace Go.Proofs.YtjmkecaljkcoiaaDoor
open Go.RowKit
set_option linter.unusedVariables false
set_option linter.unusedSimpArgs false
def MAt (w : World) (b x y : Nat) : Prop := w.heap[b]? = some (.cells #[.int .u64 (x : Int), .int .u64 (y : Int)] 162 (0, 0))
section
variable {w w' : World} {b x y : Nat}
theorem MAt.c0 (h : MAt w b x y) : w.cell? ⟨b, 0, none⟩ = some (.int .u64 (x : Int)) := cell_of_row w b 0 _ _ _ h
theorem MAt.c1 (h : MAt w b x y) : w.cell? ⟨b, 1, none⟩ = some (.int .u64 (y : Int)) := cell_of_row w b 1 _ _ _ h
theorem MAt.fz (h : MAt w b x y) (j : Nat) : w.frozen? ⟨b, j, none⟩ = false := frozen_of_row w b j _ _ h
theorem MAt.lt (h : MAt w b x y) : b < w.heap.size := (Array.getElem?_eq_some_iff.1 h).1
theorem MAt.below {B : Nat} (h : MAt w b x y) (hb : Below B w w') (hB : b < B) : MAt w' b x y := (hb.block b hB).trans h
theorem MAt.later (h : MAt w b x y) (hb : Below w.heap.size w w') : MAt w' b x y := h.below hb h.lt
theorem MAt.alloc (h : MAt w b x y) (o : Obj) : MAt (w.alloc o) b x y := (Below.heap_alloc w o b h.lt).trans h
theorem MAt.mk_ (w : World) (x y : Nat) : MAt (w.alloc (.cells #[.int .u64 (x : Int), .int .u64 (y : Int)] 162)) w.heap.size x y := heap_alloc_new w _
theorem MAt.other (h : MAt w b x y) {a : Addr} (v : Value) (hb : b ≠ a.block) : MAt (w.setCell a v) b x y := (heap_setCell_other w a b v hb).trans h
theorem MAt.set_ (h : MAt w b x y) (p q : Nat) : MAt ((w.setCell ⟨b, 0, none⟩ (.int .u64 (p : Int))).setCell ⟨b, 1, none⟩ (.int .u64 (q : Int))) b p q := by
  have h1 := heap_setCell_same w b 0 _ _ (.int .u64 (p : Int)) h
  have h2 := heap_setCell_same _ b 1 _ _ (.int .u64 (q : Int)) h1
  exact h2
end
def inC (x : Int) : List Value := [.int .i64 x]
def ofP (l : List Int) (i : Nat) : Bool := decide ((i : Int) ∈ l)
structure OfInv (l : List Int) (k a b : Nat) : Prop where
  lo : a = loM (ofP (l.take k))
  hi : b = hiM (ofP (l.take k))
theorem ofP_nil (i : Nat) : ofP [] i = false := by simp [ofP]
theorem OfInv.start (l : List Int) : OfInv l 0 0 0 := by
  have h := mask_of (a := 0) (b := 0) (p := ofP []) (by decide) (by decide) (fun i _ => by rw [zero_bit, ofP_nil])
  exact ⟨by rw [List.take_zero, h.1], by rw [List.take_zero, h.2]⟩
theorem OfInv.la {l : List Int} {k a b : Nat} (h : OfInv l k a b) : a < 18446744073709551616 := by rw [h.lo]; exact loM_lt _
theorem OfInv.lb {l : List Int} {k a b : Nat} (h : OfInv l k a b) : b < 18446744073709551616 := by rw [h.hi]; exact hiM_lt _
theorem OfInv.yes {l : List Int} {k a b r : Nat} (h : OfInv l k a b) (hk : k < l.length) (hr : r < 128) (he : l[k] = (r : Int)) : OfInv l (k + 1) (putA a r) (putB b r) := by
  have hm := mask_of (p := ofP (l.take (k + 1))) (putA_lt (r := r) h.la) (putB_lt h.lb hr) (fun i hi => by
    rw [put_bit a b r i hr hi, h.lo, h.hi, bit_of _ i hi, List.take_succ_eq_append_getElem hk, he]
    unfold ofP
    rw [Bool.eq_iff_iff]
    have e : ((i : Int) = (r : Int)) ↔ i = r := by omega
    simp only [Bool.or_eq_true, decide_eq_true_eq, List.mem_append, List.mem_singleton, e])
  exact ⟨hm.1.symm, hm.2.symm⟩
theorem OfInv.no {l : List Int} {k a b : Nat} (h : OfInv l k a b) (hk : k < l.length) (hr : ¬ (0 ≤ l[k] ∧ l[k] < 128)) : OfInv l (k + 1) a b := by
  have hm := of_congr (p := ofP (l.take (k + 1))) (q := ofP (l.take k)) (fun i hi => by
    rw [List.take_succ_eq_append_getElem hk]
    unfold ofP
    rw [Bool.eq_iff_iff]
    simp only [decide_eq_true_eq, List.mem_append, List.mem_singleton]
    constructor
    · rintro (h | e)
      · exact h
      · exfalso
        rw [← e] at hr
        omega
    · exact Or.inl)
  exact ⟨by rw [hm.1]; exact h.lo, by rw [hm.2]; exact h.hi⟩
theorem OfInv.done {l : List Int} {k a b : Nat} (h : OfInv l k a b) (hk : l.length ≤ k) : a = loM (ofP l) ∧ b = hiM (ofP l) := by
  obtain ⟨h1, h2⟩ := h
  rw [List.take_of_length_le hk] at h1 h2
  exact ⟨h1, h2⟩
end Go.Proofs.YtjmkecaljkcoiaaDoor
