/-
  Contracts of the functions of crc (but Seal and Open) and of the document's answer.
-/
import Derived.Test.YtkhkihobbfecoaaPick
import Derived.Test.YtkhkihobbfecoaaBytes1
import Derived.Test.YtkhkihobbfecoaaCrcM
namespace Go.Proofs.Ytkhkihobbfecoaa
open Go.RowKit
set_option linter.unusedVariables false

/-- What holds at the head of Turned's round. -/
structure TurnInv (a b k x y u o : Nat) : Prop where
  x_eq : x = a / 2 ^ k
  y_eq : y = b / 2 ^ k
  u_eq : u = 2 ^ k % 4294967296
  o_eq : o = (a ^^^ b) % 2 ^ k
  k_le : k ≤ 32
theorem TurnInv.start (a b : Nat) : TurnInv a b 0 a b 1 0 := ⟨by simp, by simp, rfl, by simp [Nat.mod_one], by omega⟩
theorem TurnInv.fits {a b k x y u o : Nat} (h : TurnInv a b k x y u o) : u < 4294967296 ∧ o < 4294967296 := by
  refine ⟨by rw [h.u_eq]; exact Nat.mod_lt _ (by decide), ?_⟩
  rw [h.o_eq]
  exact Nat.lt_of_lt_of_le (Nat.mod_lt _ (Nat.pow_pos (by decide))) (Nat.le_trans (Nat.pow_le_pow_right (by decide) h.k_le) (by decide))
theorem pow_lt_32 {k : Nat} (h : k < 32) : 2 ^ k % 4294967296 = 2 ^ k := Nat.mod_eq_of_lt (Nat.lt_of_lt_of_le (Nat.pow_lt_pow_right (by decide) h) (by decide))
theorem TurnInv.unit {a b k x y u o : Nat} (h : TurnInv a b k x y u o) : u * 2 % 4294967296 = 2 ^ (k + 1) % 4294967296 := by
  rw [h.u_eq, Nat.pow_succ]; omega
theorem TurnInv.halve (a k : Nat) : a / 2 ^ k / 2 = a / 2 ^ (k + 1) := by rw [Nat.div_div_eq_div_mul, Nat.pow_succ]
theorem TurnInv.bit {a b k x y u o : Nat} (h : TurnInv a b k x y u o) : (a ^^^ b) % 2 ^ (k + 1) = o + 2 ^ k * (x % 2 ^^^ y % 2) := by
  rw [Nat.mod_pow_succ, h.o_eq, Nat.xor_div_two_pow, xor_mod2, h.x_eq, h.y_eq]
theorem TurnInv.same {a b k x y u o : Nat} (h : TurnInv a b k x y u o) (hk : k < 32) (he : x % 2 = y % 2) : TurnInv a b (k + 1) (x / 2) (y / 2) (u * 2 % 4294967296) o := by
  refine ⟨by rw [h.x_eq, TurnInv.halve], by rw [h.y_eq, TurnInv.halve], h.unit, ?_, hk⟩
  rw [h.bit, he, Nat.xor_self, Nat.mul_zero, Nat.add_zero]
theorem TurnInv.other {a b k x y u o : Nat} (h : TurnInv a b k x y u o) (hk : k < 32) (he : x % 2 ≠ y % 2) : TurnInv a b (k + 1) (x / 2) (y / 2) (u * 2 % 4294967296) (o + u) := by
  refine ⟨by rw [h.x_eq, TurnInv.halve], by rw [h.y_eq, TurnInv.halve], h.unit, ?_, hk⟩
  rw [h.bit]
  have hx : x % 2 ^^^ y % 2 = 1 := by
    have h1 : x % 2 = 0 ∨ x % 2 = 1 := by omega
    have h2 : y % 2 = 0 ∨ y % 2 = 1 := by omega
    rcases h1 with h1 | h1 <;> rcases h2 with h2 | h2 <;> rw [h1, h2] at he ⊢ <;> first | rfl | exact absurd rfl he
  rw [hx, h.u_eq, pow_lt_32 hk, Nat.mul_one]
theorem TurnInv.stop {a b k x y u o : Nat} (h : TurnInv a b k x y u o) (hk : k = 32) (ha : a < 2 ^ 32) (hb : b < 2 ^ 32) : o = a ^^^ b := by
  subst hk
  rw [h.o_eq, Nat.mod_eq_of_lt (Nat.xor_lt_two_pow ha hb)]

set_option maxRecDepth 100000 in
theorem turned_any (a b : Nat) (w : World) (ha : a < 4294967296) (hb : b < 4294967296) :
    Calls Try.prog 50 #[.int .u32 (a : Int), .int .u32 (b : Int)] w fun e w' => e = .returned (.int .u32 (a ^^^ b : Nat)) ∧ w = w' := by
  have H0 := TurnInv.start a b
  have HA := hide ha
  have HB := hide hb
  clear ha hb
  go_enter Try.func50, Try.ntmps50
  go_wp2
  go_loop [0, 1, 5, 6, 7] (fun p q o u i => ∃ k x y m s : Nat, i = .int .i64 k ∧ p = .int .u32 (x : Int) ∧ q = .int .u32 (y : Int) ∧ u = .int .u32 (m : Int) ∧ o = .int .u32 (s : Int) ∧ TurnInv a b k x y m s) (fun _ _ _ _ i => 32 - (intOf i).toNat)
  case atStart => exact ⟨0, a, b, 1, 0, rfl, rfl, rfl, rfl, rfl, H0⟩
  case round =>
    obtain ⟨k, x, y, m, s, rfl, rfl, rfl, rfl, rfl, hinv⟩ := hrel
    obtain ⟨hm, hs⟩ := hinv.fits
    have hk := hinv.k_le
    have hx32 : x < 4294967296 := by rw [hinv.x_eq]; exact Nat.lt_of_le_of_lt (Nat.div_le_self _ _) HA.out
    have hy32 : y < 4294967296 := by rw [hinv.y_eq]; exact Nat.lt_of_le_of_lt (Nat.div_le_self _ _) HB.out
    by_cases hlt : k < 32
    · by_cases he : x % 2 = y % 2
      · have hn := hinv.same hlt he
        have t : ((x : Int) % 2 != (y : Int) % 2) = false := by simp only [bne_eq_false_iff_eq]; omega
        clear he
        go_wp2
        go_round
        case rel => exact ⟨k + 1, _, _, _, _, by go_num, by go_num, by go_num, by go_num, rfl, hn⟩
        case measure => simp [intOf]; omega
      · have hn := hinv.other hlt he
        have hs2 := hn.fits.2
        have t : ((x : Int) % 2 != (y : Int) % 2) = true := by simp only [bne_iff_ne, ne_eq]; omega
        clear he
        go_wp2
        go_round
        case rel => exact ⟨k + 1, _, _, _, _, by go_num, by go_num, by go_num, by go_num, by go_num, hn⟩
        case measure => simp [intOf]; omega
    · have e := hinv.stop (by omega) HA.out HB.out
      have HE := hide e
      clear e
      go_wp2
      go_ret
      rw [HE.out]
      exact ⟨rfl, rfl⟩

theorem u32_low (m : Nat) (h : m < 4294967296) : bits .and .u32 (m : Int) 1 = (m : Int) % 2 := by
  rw [show (1 : Int) = ((1 : Nat) : Int) from rfl, u32_and_nat _ _ h (by decide), nat_mask1]; rfl
theorem u32_poly (m : Nat) (h : m < 4294967296) : bits .xor .u32 (m : Int) 3988292384 = ((m ^^^ polyN : Nat) : Int) := by
  rw [show (3988292384 : Int) = ((3988292384 : Nat) : Int) from rfl, u32_xor_nat _ _ h (by decide)]; rfl
theorem stepN_odd {m : Nat} (h : m % 2 = 1) : stepN m = m / 2 ^^^ polyN := if_pos h
theorem stepN_even {m : Nat} (h : ¬ m % 2 = 1) : stepN m = m / 2 := if_neg h

set_option maxRecDepth 100000 in
theorem goOne_any (s : Nat) (c : UInt8) (w : World) (hs : s < 4294967296) :
    Calls Try.prog 53 #[.int .u32 (s : Int), .int .u8 (c.toNat : Int)] w fun e w' => e = .returned (.int .u32 (inN s c : Nat)) ∧ w = w' := by
  have hc := c.toNat_lt
  obtain ⟨d, hd⟩ : ∃ d, d = c.toNat := ⟨_, rfl⟩
  have hin : inN s c = stepK 8 (s ^^^ d) := by rw [hd]; rfl
  rw [← hd] at hc ⊢
  have hx := u32_xor_nat s d hs (by omega)
  have h0 : s ^^^ d < 4294967296 := Nat.xor_lt_two_pow (n := 32) hs (by omega)
  have HI := hide hin
  have HX := hide hx
  have HD := hide hd
  have H0 := hide h0
  clear hin hx hd h0
  go_enter Try.func53, Try.ntmps53
  go_wp2
  go_loop [0, 10] (fun p i => ∃ k m : Nat, k ≤ 8 ∧ i = .int .i64 k ∧ p = .int .u32 (m : Int) ∧ m < 4294967296 ∧ m = stepK k (s ^^^ d)) (fun _ i => 8 - (intOf i).toNat)
  case atStart => exact ⟨0, s ^^^ d, Nat.zero_le _, rfl, by rw [HX.out], H0.out, rfl⟩
  case round =>
    obtain ⟨k, m, hk, rfl, rfl, hm, he⟩ := hrel
    by_cases hlt : k < 8
    · have hn : stepN m = stepK (k + 1) (s ^^^ d) := by rw [stepK_succ, he]
      have HN := hide hn
      clear he hn
      have hl := u32_low m hm
      have hm2 : m / 2 < 4294967296 := by omega
      have hp := u32_poly (m / 2) hm2
      rw [show ((m / 2 : Nat) : Int) = (m : Int) / 2 from rfl] at hp
      have HP := hide hp
      clear hp
      by_cases h1 : m % 2 = 1
      · have t : (bits .and .u32 (m : Int) 1 == 1) = true := by rw [hl, beq_iff_eq]; omega
        have e1 := stepN_odd h1
        have hb : stepN m < 4294967296 := stepN_lt hm
        rw [e1] at HN hb
        have E1 := hide e1
        have HL := hide hl
        clear h1 e1 hl
        go_wp2
        go_round
        case rel => exact ⟨k + 1, _, by omega, by go_num, by rw [HP.out], hb, HN.out⟩
        case measure => simp [intOf]; omega
      · have t : (bits .and .u32 (m : Int) 1 == 1) = false := by rw [hl, beq_eq_false_iff_ne]; omega
        have e1 := stepN_even h1
        rw [e1] at HN
        have HL := hide hl
        clear h1 e1 hl
        go_wp2
        go_round
        case rel => exact ⟨k + 1, _, by omega, by go_num, by go_num, hm2, HN.out⟩
        case measure => simp [intOf]; omega
    · obtain rfl : k = 8 := by omega
      have HE := hide he
      clear he
      go_wp2
      go_ret
      rw [HI.out, ← HE.out]
      exact ⟨rfl, rfl⟩
theorem u32_flip (x : Nat) (h : x < 4294967296) : bits .xor .u32 IntKind.u32.max (x : Int) = ((x ^^^ onesN : Nat) : Int) := by
  rw [show IntKind.u32.max = ((4294967295 : Nat) : Int) from rfl, u32_xor_nat _ _ (by decide) h, Nat.xor_comm]; rfl
theorem end_any (x : Nat) (w : World) (h : x < 4294967296) :
    Calls Try.prog 48 #[.int .u32 (x : Int)] w fun e w' => e = .returned (.int .u32 (x ^^^ onesN : Nat)) ∧ w = w' := by
  go_enter Try.func48, Try.ntmps48
  go_wp2
  go_ret
  exact ⟨ret_int (u32_flip x (by assumption)), rfl⟩
theorem begin_any (w : World) :
    Calls Try.prog 46 #[] w fun e w' => e = .returned (.int .u32 (onesN : Nat)) ∧ w = w' := by
  go_enter Try.func46, Try.ntmps46
  go_wp2
  go_ret
  exact ⟨rfl, rfl⟩

theorem goN_take_snoc (s : Nat) {l : List UInt8} {k : Nat} (h : k < l.length) : goN s (l.take (k + 1)) = inN (goN s (l.take k)) l[k] := by
  rw [take_snoc h, goN_snoc]
set_option maxRecDepth 100000 in
theorem go_any (A : Option Addr) (n c : Nat) (l : List UInt8) (B : Nat) (s : Nat) (w : World) (hA : Bs w B A n l) (hn : n ≤ maxLen) (hs : s < 4294967296) :
    Calls Try.prog 47 #[.int .u32 (s : Int), .slice A n c] w fun e w' => e = .returned (.int .u32 (goN s l : Nat)) ∧ w = w' := by
  unfold maxLen at hn
  have hlen := hA.len
  have HL := hide hlen
  clear hlen
  have HS := hide hs
  clear hs
  go_enter Try.func47, Try.ntmps47
  go_wp2
  go_loop [0, 9] (fun p i => ∃ k m : Nat, k ≤ n ∧ i = .int .i64 k ∧ p = .int .u32 (m : Int) ∧ m = goN s (l.take k)) (fun _ i => n - (intOf i).toNat)
  case atStart => exact ⟨0, s, Nat.zero_le _, rfl, rfl, rfl⟩
  case round =>
    obtain ⟨k, m, hk, rfl, rfl, he⟩ := hrel
    by_cases hlt : k < n
    · obtain ⟨ad, hl, rfl, _, hc⟩ := hA.at_ hlt
      have hm : m < 4294967296 := by rw [he]; exact goN_lt HS.out
      have hn2 := goN_take_snoc s hl
      rw [← he] at hn2
      have HN := hide hn2
      have HE := hide he
      clear hn2 he
      unfold byteV at hc
      go_wp2_with fail
      refine (goOne_any m l[k] _ hm).mono ?_
      rintro e w' ⟨rfl, rfl⟩
      go_wp2
      go_round
      case rel => exact ⟨k + 1, _, by omega, by go_num, rfl, HN.out.symm⟩
      case measure => simp [intOf]; omega
    · obtain rfl : k = n := by omega
      have HE := hide he
      clear he
      go_wp2
      go_ret
      have e := HE.out
      rw [List.take_of_length_le (by rw [HL.out]; omega)] at e
      rw [← e]
      exact ⟨rfl, rfl⟩

set_option maxRecDepth 100000 in
theorem rgo_any (s : Nat) (c : UInt8) (w : World) (hs : s < 4294967296) :
    Calls Try.prog 49 #[.int .u32 (s : Int), .int .u8 (c.toNat : Int)] w fun e w' => e = .returned (.int .u32 (inN s c : Nat)) ∧ w = w' := by
  have hc := c.toNat_lt
  obtain ⟨d, hd⟩ : ∃ d, d = c.toNat := ⟨_, rfl⟩
  have hin : inN s c = stepK 8 (s ^^^ d) := by rw [hd]; rfl
  rw [← hd] at hc ⊢
  have h0 : s ^^^ d < 4294967296 := Nat.xor_lt_two_pow (n := 32) hs (by omega)
  have HI := hide hin
  have HD := hide hd
  have H0 := hide h0
  clear hin hd h0
  go_enter Try.func49, Try.ntmps49
  go_wp2_with fail
  refine (turned_any s d _ hs (by omega)).mono ?_
  rintro e w' ⟨rfl, rfl⟩
  go_wp2
  go_loop [0, 5] (fun p i => ∃ k m : Nat, k ≤ 8 ∧ i = .int .i64 k ∧ p = .int .u32 (m : Int) ∧ m < 4294967296 ∧ m = stepK k (s ^^^ d)) (fun _ i => 8 - (intOf i).toNat)
  case atStart => exact ⟨0, s ^^^ d, Nat.zero_le _, rfl, rfl, H0.out, rfl⟩
  case round =>
    obtain ⟨k, m, hk, rfl, rfl, hm, he⟩ := hrel
    by_cases hlt : k < 8
    · have hn : stepN m = stepK (k + 1) (s ^^^ d) := by rw [stepK_succ, he]
      have HN := hide hn
      clear he hn
      have hm2 : m / 2 < 4294967296 := by omega
      by_cases h1 : m % 2 = 1
      · have t : ((m : Int) % 2 == 1) = true := by rw [beq_iff_eq]; omega
        have e1 := stepN_odd h1
        have hb : stepN m < 4294967296 := stepN_lt hm
        rw [e1] at HN hb
        have E1 := hide e1
        clear h1 e1
        go_wp2_with fail
        refine (turned_any (m / 2) polyN _ hm2 (by decide)).mono ?_
        rintro e w' ⟨rfl, rfl⟩
        go_wp2
        go_round
        case rel => exact ⟨k + 1, _, by omega, by go_num, rfl, hb, HN.out⟩
        case measure => simp [intOf]; omega
      · have t : ((m : Int) % 2 == 1) = false := by rw [beq_eq_false_iff_ne]; omega
        have e1 := stepN_even h1
        rw [e1] at HN
        clear h1 e1
        go_wp2
        go_round
        case rel => exact ⟨k + 1, _, by omega, by go_num, by go_num, hm2, HN.out⟩
        case measure => simp [intOf]; omega
    · obtain rfl : k = 8 := by omega
      have HE := hide he
      clear he
      go_wp2
      go_ret
      rw [HI.out, ← HE.out]
      exact ⟨rfl, rfl⟩
set_option maxRecDepth 100000 in
theorem rsum_any (A : Option Addr) (n c : Nat) (l : List UInt8) (B : Nat) (w : World) (hA : Bs w B A n l) (hn : n ≤ maxLen) :
    Calls Try.prog 43 #[.slice A n c] w fun e w' => e = .returned (.int .u32 (sumN l : Nat)) ∧ w = w' := by
  unfold maxLen at hn
  have hlen := hA.len
  have HL := hide hlen
  clear hlen
  go_enter Try.func43, Try.ntmps43
  go_wp2
  go_loop [3, 4] (fun p i => ∃ k m : Nat, k ≤ n ∧ i = .int .i64 k ∧ p = .int .u32 (m : Int) ∧ m = goN onesN (l.take k)) (fun _ i => n - (intOf i).toNat)
  case atStart => exact ⟨0, onesN, Nat.zero_le _, rfl, rfl, rfl⟩
  case round =>
    obtain ⟨k, m, hk, rfl, rfl, he⟩ := hrel
    have hm : m < 4294967296 := by rw [he]; exact goN_lt onesN_lt
    by_cases hlt : k < n
    · obtain ⟨ad, hl, rfl, _, hc⟩ := hA.at_ hlt
      have hn2 := goN_take_snoc onesN hl
      rw [← he] at hn2
      have HN := hide hn2
      have HE := hide he
      clear hn2 he
      unfold byteV at hc
      go_wp2_with fail
      refine (rgo_any m l[k] _ hm).mono ?_
      rintro e w' ⟨rfl, rfl⟩
      go_wp2
      go_round
      case rel => exact ⟨k + 1, _, by omega, by go_num, rfl, HN.out.symm⟩
      case measure => simp [intOf]; omega
    · obtain rfl : k = n := by omega
      have HE := hide he
      clear he
      go_wp2_with fail
      refine (turned_any m onesN _ hm onesN_lt).mono ?_
      rintro e w' ⟨rfl, rfl⟩
      go_wp2
      go_ret
      have e := HE.out
      rw [List.take_of_length_le (by rw [HL.out]; omega)] at e
      rw [show sumN l = goN onesN l ^^^ onesN from rfl, ← e]
      exact ⟨rfl, rfl⟩

/-- The slice value '.slice A n c' holds slices of bytes, and lies, as they do, below block B. -/
def Ps (w : World) (B : Nat) (A : Option Addr) (n : Nat) (ls : List (List UInt8)) : Prop :=
  ls.length = n ∧ (0 < n → ∃ ad, A = some ad ∧ ad.block < B ∧ ∀ j l, ls[j]? = some l → ∃ A' n' c', w.cell? (ad.add j) = some (.slice A' n' c') ∧ n' ≤ maxLen ∧ Bs w B A' n' l)
theorem Ps.at_ {w : World} {B n k : Nat} {A : Option Addr} {ls : List (List UInt8)} (h : Ps w B A n ls) (hk : k < n) : ∃ ad, ∃ hl : k < ls.length, A = some ad ∧ ∃ A' n' c', w.cell? (ad.add k) = some (.slice A' n' c') ∧ n' ≤ maxLen ∧ Bs w B A' n' ls[k] := by
  obtain ⟨ad, e, _, hc⟩ := h.2 (by omega)
  have hl : k < ls.length := by have := h.1; omega
  exact ⟨ad, hl, e, hc k _ (List.getElem?_eq_getElem hl)⟩
theorem Ps.nil_ (w : World) (B : Nat) (A : Option Addr) : Ps w B A 0 [] := ⟨rfl, fun h => absurd h (by omega)⟩
theorem Ps.below {w w' : World} {B n : Nat} {A : Option Addr} {ls : List (List UInt8)} (h : Ps w B A n ls) (hb : Below B w w') : Ps w' B A n ls :=
  ⟨h.1, fun hn => by
    obtain ⟨ad, e, hlt, hc⟩ := h.2 hn
    refine ⟨ad, e, hlt, fun j l hj => ?_⟩
    obtain ⟨A', n', c', h1, h2, h3⟩ := hc j l hj
    exact ⟨A', n', c', (hb.cell (by rw [block_of_add]; exact hlt)).trans h1, h2, h3.below hb⟩⟩
theorem Ps.more {w : World} {B B' n : Nat} {A : Option Addr} {ls : List (List UInt8)} (h : Ps w B A n ls) (hB : B ≤ B') : Ps w B' A n ls :=
  ⟨h.1, fun hn => by
    obtain ⟨ad, e, hlt, hc⟩ := h.2 hn
    refine ⟨ad, e, by omega, fun j l hj => ?_⟩
    obtain ⟨A', n', c', h1, h2, h3⟩ := hc j l hj
    exact ⟨A', n', c', h1, h2, h3.more hB⟩⟩
theorem Ps.later {w w' : World} {n : Nat} {A : Option Addr} {ls : List (List UInt8)} (h : Ps w w.heap.size A n ls) (hb : Below w.heap.size w w') : Ps w' w'.heap.size A n ls := (h.below hb).more hb.size
theorem Ps.one {w : World} {B g : Nat} {A : Option Addr} {n c : Nat} {l : List UInt8} (t : TypeId) (hg : g = w.heap.size) (h : Bs w B A n l) (hn : n ≤ maxLen) (hB : B ≤ w.heap.size) :
    Ps (w.alloc (.cells #[.slice A n c] t)) (w.heap.size + 1) (some ⟨g, 0, none⟩) 1 [l] := by
  subst hg
  refine ⟨rfl, fun _ => ⟨_, rfl, Nat.lt_succ_self _, fun j x hj => ?_⟩⟩
  match j, hj with
  | 0, hj =>
    simp at hj; subst hj
    exact ⟨A, n, c, cell_of_row _ _ 0 #[.slice A n c] t (0, 0) (heap_alloc_new w _), hn, (h.alloc hB _).more (by omega)⟩
theorem Ps.two {w : World} {B g : Nat} {A A' : Option Addr} {n c n' c' : Nat} {l l' : List UInt8} (t : TypeId) (hg : g = w.heap.size) (h : Bs w B A n l) (h' : Bs w B A' n' l') (hn : n ≤ maxLen) (hn' : n' ≤ maxLen) (hB : B ≤ w.heap.size) :
    Ps (w.alloc (.cells #[.slice A n c, .slice A' n' c'] t)) (w.heap.size + 1) (some ⟨g, 0, none⟩) 2 [l, l'] := by
  subst hg
  refine ⟨rfl, fun _ => ⟨_, rfl, Nat.lt_succ_self _, fun j x hj => ?_⟩⟩
  match j, hj with
  | 0, hj =>
    simp at hj; subst hj
    exact ⟨A, n, c, cell_of_row _ _ 0 #[.slice A n c, .slice A' n' c'] t (0, 0) (heap_alloc_new w _), hn, (h.alloc hB _).more (by omega)⟩
  | 1, hj =>
    simp at hj; subst hj
    exact ⟨A', n', c', cell_of_row _ _ 1 #[.slice A n c, .slice A' n' c'] t (0, 0) (heap_alloc_new w _), hn', (h'.alloc hB _).more (by omega)⟩

theorem flat_take_snoc {ls : List (List UInt8)} {k : Nat} (s : Nat) (h : k < ls.length) : goN s (ls.take (k + 1)).flatten = goN (goN s (ls.take k).flatten) ls[k] := by
  rw [List.take_succ_eq_append_getElem h, List.flatten_append, goN_append]; simp
theorem sumN_eq (l : List UInt8) : sumN l = goN onesN l ^^^ onesN := rfl
set_option maxRecDepth 100000 in
theorem sum_any (A : Option Addr) (n c : Nat) (ls : List (List UInt8)) (B : Nat) (w : World) (hA : Ps w B A n ls) (hn : n ≤ maxLen) :
    Calls Try.prog 42 #[.slice A n c] w fun e w' => e = .returned (.int .u32 (sumN ls.flatten : Nat)) ∧ w = w' := by
  unfold maxLen at hn
  have hlen := hA.1
  have HL := hide hlen
  clear hlen
  go_enter Try.func42, Try.ntmps42
  go_wp2_with fail
  refine (begin_any _).mono ?_
  rintro e w' ⟨rfl, rfl⟩
  go_wp2
  go_loop [3, 9] (fun p i => ∃ k m : Nat, k ≤ n ∧ i = .int .i64 k ∧ p = .int .u32 (m : Int) ∧ m = goN onesN (ls.take k).flatten) (fun _ i => n - (intOf i).toNat)
  case atStart => exact ⟨0, onesN, Nat.zero_le _, rfl, rfl, rfl⟩
  case round =>
    obtain ⟨k, m, hk, rfl, rfl, he⟩ := hrel
    have hm : m < 4294967296 := by rw [he]; exact goN_lt onesN_lt
    by_cases hlt : k < n
    · obtain ⟨ad, hl, rfl, A', n', c', hc, hn', hB⟩ := hA.at_ hlt
      have hn2 := flat_take_snoc onesN hl
      rw [← he] at hn2
      have HN := hide hn2
      have HE := hide he
      clear hn2 he
      go_wp2_with fail
      refine (go_any A' n' c' ls[k] _ m _ hB hn' hm).mono ?_
      rintro e w' ⟨rfl, rfl⟩
      go_wp2
      go_round
      case rel => exact ⟨k + 1, _, by omega, by go_num, rfl, HN.out.symm⟩
      case measure => simp [intOf]; omega
    · obtain rfl : k = n := by omega
      have HE := hide he
      clear he
      go_wp2_with fail
      refine (end_any m _ hm).mono ?_
      rintro e w' ⟨rfl, rfl⟩
      go_wp2
      go_ret
      have e := HE.out
      rw [List.take_of_length_le (by rw [HL.out]; omega)] at e
      rw [sumN_eq, ← e]
      exact ⟨rfl, rfl⟩

end Go.Proofs.Ytkhkihobbfecoaa
