/-
  Sets of processes behind a pointer: the words. Plain lemmas.
-/
import Derived.Maps.RangeWalk
import Derived.Test.YtdmihbicpjmgjaaQSortM
import Derived.Test.YtdmihbicpjmgjaaQTurn
import Derived.Outline
import Derived.Test.YtdmihbicpjmgjaaQOpenF
import Derived.Test.YtdmihbicpjmgjaaQMaskM
namespace Go.Proofs.Ytdmihbicpjmgjaa
open Go.RowKit Go.Maps
set_option linter.unusedVariables false
set_option linter.unusedSimpArgs false

/-- Block g is a map that holds just the processes acc, each once. -/
def SetD (w : World) (g : Nat) (acc : List Pr) : Prop :=
  ∃ D : DataW Unit, w.ownsMap Try.prog 25 unitElem g acc.length D ∧ (∀ p : Pr, Maps.has D p.key = decide (p ∈ acc)) ∧ Maps.size D = acc.length ∧ acc.Nodup
theorem ownsMap_tight {P : Program} {k : TypeId} {R : Value → Option (DataW Unit × List MemPlace)} {w : World} {b n m : Nat} {D : DataW Unit} (h : w.ownsMap P k R b n D) (hm : Maps.size D ≤ m) : w.ownsMap P k R b m D := by
  obtain ⟨es, clock, hb, F, hs, hD⟩ := h
  refine ⟨es, clock, hb, F, ?_, hD⟩
  subst hD
  simpa [Maps.size, length_sorted] using hm
theorem keyLit (p : Pr) : WideAt.IsKeyLit p.key := lawPid.key (key_pr p)

section
variable {w w' : World} {b g : Nat} {mg : Option Nat} {acc l : List Pr}
theorem SetD.lt (h : SetD w g acc) : g < w.heap.size := by
  obtain ⟨D, h1, _⟩ := h
  exact h1.lt
theorem SetD.block (h : SetD w g acc) (hb : w'.heap[g]? = w.heap[g]?) : SetD w' g acc := by
  obtain ⟨D, ⟨es, clock, h1, r⟩, h2⟩ := h
  exact ⟨D, ⟨es, clock, hb.trans h1, r⟩, h2⟩
theorem SetD.nodup (h : SetD w g acc) : acc.Nodup := by
  obtain ⟨D, _, _, _, h⟩ := h
  exact h
/-- The same processes, told in another order. -/
theorem SetD.same (h : SetD w g acc) (hn : l.Nodup) (hm : ∀ p, p ∈ l ↔ p ∈ acc) : SetD w g l := by
  obtain ⟨D, h1, h2, h3, h4⟩ := h
  have e : l.length = acc.length := ((List.perm_ext_iff_of_nodup hn h4).2 hm).length_eq
  exact ⟨D, by rw [e]; exact h1, fun p => by rw [h2 p, decide_eq_decide.2 (hm p).symm], by rw [e]; exact h3, hn⟩
theorem SetD.made (w : World) : SetD (w.alloc (.map #[] 0)) w.heap.size [] := ⟨.map [], World.ownsMap_made _ _ _ _, fun p => by simp [Maps.has], rfl, List.nodup_nil⟩
theorem SetD.put {n : Nat} {D : DataW Unit} {q : Pr} (hD : w.ownsMap Try.prog 25 unitElem g n D) (hh : ∀ p : Pr, Maps.has D p.key = decide (p ∈ acc)) (hs : Maps.size D = acc.length) (hn : acc.Nodup) (hq : q ∉ acc) (d : DataW Unit) {m : Nat}
    (h' : w'.ownsMap Try.prog 25 unitElem g m (D.put q.key d)) : SetD w' g (acc ++ [q]) := by
  have e1 : Maps.size (D.put q.key d) = (acc ++ [q]).length := by
    rw [size_put (hD.tidy lawPid), hh q, decide_eq_false hq]; simp [hs]
  refine ⟨_, ownsMap_tight h' (Nat.le_of_eq e1), fun p => ?_, e1, List.nodup_append.2 ⟨hn, by simp, fun a ha c hc => by rw [List.mem_singleton] at hc; subst hc; exact fun e => hq (e ▸ ha)⟩⟩
  by_cases e : p = q
  · subst e
    rw [has_put_same hD.isMap (keyLit p) d]
    simp
  · rw [has_put_other (fun e' => e (Pr.key_inj e')) d, hh p]
    simp [e]
theorem length_erase {q : Pr} : ∀ {l : List Pr}, l.Nodup → q ∈ l → (l.filter fun x => decide (x ≠ q)).length + 1 = l.length
  | [], _, h => by simp at h
  | a :: r, hn, h => by
    obtain ⟨h1, h2⟩ := List.nodup_cons.1 hn
    by_cases e : a = q
    · subst e
      have e2 : (r.filter fun x => decide (x ≠ a)) = r := List.filter_eq_self.2 fun x hx => decide_eq_true (fun e => h1 (e ▸ hx))
      simp only [List.filter_cons, ne_eq, not_true_eq_false, decide_false, Bool.false_eq_true, if_false, List.length_cons]
      show (r.filter fun x => decide (x ≠ a)).length + 1 = _
      rw [e2]
    · have hr : q ∈ r := by
        rcases List.mem_cons.1 h with h | h
        · exact absurd h.symm e
        · exact h
      have := length_erase h2 hr
      rw [List.filter_cons, if_pos (decide_eq_true e), List.length_cons, List.length_cons, this]
theorem SetD.del {n : Nat} {D : DataW Unit} {q : Pr} (hD : w.ownsMap Try.prog 25 unitElem g n D) (hh : ∀ p : Pr, Maps.has D p.key = decide (p ∈ acc)) (hs : Maps.size D = acc.length) (hn : acc.Nodup) (hq : q ∈ acc) {m : Nat}
    (h' : w'.ownsMap Try.prog 25 unitElem g m (D.del q.key)) : SetD w' g (acc.filter fun x => decide (x ≠ q)) := by
  have e0 := length_erase hn hq
  have e1 : Maps.size (D.del q.key) = (acc.filter fun x => decide (x ≠ q)).length := by
    have := size_del (k := q.key) (hD.tidy lawPid)
    rw [hh q, decide_eq_true hq, if_pos rfl] at this
    omega
  refine ⟨_, ownsMap_tight h' (Nat.le_of_eq e1), fun p => ?_, e1, hn.filter _⟩
  by_cases e : p = q
  · subst e
    rw [has_del_same]
    simp
  · rw [has_del_other (fun e' => e (Pr.key_inj e')), hh p]
    simp [e]
end

section
variable {w w' w2 : World} {b g : Nat} {mg mg' mg2 : Option Nat} {acc l : List Pr}
end
end Go.Proofs.Ytdmihbicpjmgjaa
namespace Go.Proofs.Ytdmihbicpjmgjaa
open Go.RowKit
set_option linter.unusedVariables false
set_option linter.unusedSimpArgs false

/-- Is it a rank? -/
def rankB (x : Int) : Bool := decide (0 ≤ x) && decide (x < 128)
set_option maxRecDepth 100000 in
theorem rank_yes (r : Nat) (w : World) (hr : r < 128) :
    Calls Try.prog 102 #[.int .i64 (r : Int)] w fun e w' => e = .returned (.bool true) ∧ w = w' := by
  go_enter Try.func102, Try.ntmps102
  go_wp2
  go_ret
  exact ⟨ret_bool (decide_eq_true (by omega)), rfl⟩
set_option maxRecDepth 100000 in
theorem rank_no (x : Int) (w : World) (hr : ¬ (0 ≤ x ∧ x < 128)) :
    Calls Try.prog 102 #[.int .i64 x] w fun e w' => e = .returned (.bool false) ∧ w = w' := by
  by_cases h : 0 ≤ x
  · have h2 : ¬ x < 128 := fun hh => hr ⟨h, hh⟩
    go_enter Try.func102, Try.ntmps102
    go_wp2
    all_goals go_ret
    all_goals exact ⟨ret_bool (by first | rfl | (simp; done) | (simp; omega)), rfl⟩
  · go_enter Try.func102, Try.ntmps102
    go_wp2
    all_goals go_ret
    all_goals exact ⟨ret_bool (by first | rfl | (simp; done) | (simp; omega)), rfl⟩
theorem i64_and_63 (r : Nat) (hr : r < 128) : bits .and .i64 (r : Int) 63 = ((r % 64 : Nat) : Int) := by
  show IntKind.i64.wrap ((BitVec.ofInt 64 (r : Int) &&& BitVec.ofInt 64 63).toNat : Int) = _
  rw [BitVec.toNat_and, BitVec.ofInt_natCast, show BitVec.ofInt 64 63 = BitVec.ofNat 64 63 from rfl, BitVec.toNat_ofNat, BitVec.toNat_ofNat, Nat.mod_eq_of_lt (show r < 2 ^ 64 by omega), show 63 % 2 ^ 64 = 63 from rfl, nat_mask6, IntKind.wrap_i64]
  omega
theorem wrap_pow {r : Nat} (h : r < 64) : IntKind.u64.wrap ((2 : Int) ^ r) = ((2 ^ r : Nat) : Int) := by
  have hp := pow_lt64 h
  have e : ((2 ^ r : Nat) : Int) = (2 : Int) ^ r := by push_cast; rfl
  rw [IntKind.wrap_u64, ← e]
  generalize 2 ^ r = p at *
  omega
theorem ret_pair {a b c d : Value} (h1 : a = c) (h2 : b = d) : Ending.returned (.tuple #[a, b]) = .returned (.tuple #[c, d]) := by rw [h1, h2]
set_option maxRecDepth 100000 in
theorem place_lo (r : Nat) (w : World) (hr : r < 64) :
    Calls Try.prog 103 #[.int .i64 (r : Int)] w fun e w' => e = .returned (.tuple #[.int .i64 0, .int .u64 ((2 ^ r : Nat) : Int)]) ∧ w = w' := by
  have h1 := i64_and_63 r (by omega)
  rw [Nat.mod_eq_of_lt hr] at h1
  have hp := pow_lt64 hr
  go_enter Try.func103, Try.ntmps103
  go_wp2
  go_ret2
  exact ⟨ret_pair (a := .int .i64 ((r : Int) / 64)) (b := .int .u64 (IntKind.u64.wrap (2 ^ r))) (by congr 1; omega) (by rw [wrap_pow hr]), rfl⟩
set_option maxRecDepth 100000 in
theorem place_hi (r : Nat) (w : World) (h0 : ¬ r < 64) (hr : r < 128) :
    Calls Try.prog 103 #[.int .i64 (r : Int)] w fun e w' => e = .returned (.tuple #[.int .i64 1, .int .u64 ((2 ^ (r - 64) : Nat) : Int)]) ∧ w = w' := by
  have h1 := i64_and_63 r (by omega)
  obtain ⟨m, hm⟩ : ∃ m, m = r - 64 := ⟨_, rfl⟩
  have hm64 : m < 64 := by omega
  rw [show r % 64 = m from by omega] at h1
  rw [← hm]
  have HM := hide hm
  clear hm
  have hp := pow_lt64 hm64
  go_enter Try.func103, Try.ntmps103
  go_wp2
  go_ret2
  exact ⟨ret_pair (a := .int .i64 ((r : Int) / 64)) (b := .int .u64 (IntKind.u64.wrap (2 ^ m))) (by congr 1; omega) (by rw [wrap_pow hm64]), rfl⟩

/-! ### Has, With, Without -/
theorem has_bit (x r : Nat) (hx : x < 18446744073709551616) (hr : r < 64) : ((bits .and .u64 (x : Int) ((2 ^ r : Nat) : Int)) != 0) = x.testBit r := by
  rw [u64_and_nat x (2 ^ r) hx (pow_lt64 hr), nat_bit, Nat.testBit_eq_decide_div_mod_eq]
  have hp : 0 < 2 ^ r := Nat.pow_pos (by decide)
  rcases Nat.mod_two_eq_zero_or_one (x / 2 ^ r) with h | h
  · simp [h]
  · rw [h, Nat.one_mul]
    generalize 2 ^ r = p at *
    simp; omega
set_option maxRecDepth 100000 in
theorem with_any (a b r : Nat) (w : World) (ha : a < 18446744073709551616) (hb : b < 18446744073709551616) (hr : r < 128) :
    Calls Try.prog 95 #[.agg #[.int .u64 (a : Int), .int .u64 (b : Int)], .int .i64 (r : Int)] w fun e w' => e = .returned (.agg #[.int .u64 ((putA a r : Nat) : Int), .int .u64 ((putB b r : Nat) : Int)]) ∧ Below w.heap.size w w' := by
  by_cases h : r < 64
  · have e1 := u64_or_nat a (2 ^ r) ha (pow_lt64 h)
    have cp := fun W => place_lo r W h
    have e2 : putA a r = _ := if_pos h
    have e3 : putB b r = b := if_pos h
    rw [e3]
    rw [← e2] at e1
    generalize putA a r = q at *
    clear e2 e3
    generalize 2 ^ r = p at *
    go_enter Try.func95, Try.ntmps95
    go_wp2_with fail
    refine (rank_yes r _ hr).mono ?_
    rintro e w1 ⟨rfl, rfl⟩
    go_wp2_with fail
    refine (cp _).mono ?_
    rintro e w1 ⟨rfl, rfl⟩
    go_wp2
    refine bodyPost_ret (v := .agg #[.int .u64 (q : Int), .int .u64 (b : Int)]) (by simp [results, Try.results95, go_sem]) rfl ⟨rfl, ?_⟩
    exact (((Below.refl _ _).alloc (Nat.le_refl _) _).alloc (by simp) _)
  · have e1 := u64_or_nat b (2 ^ (r - 64)) hb (pow_lt64 (by omega))
    have cp := fun W => place_hi r W h hr
    have e2 : putB b r = _ := if_neg h
    have e3 : putA a r = a := if_neg h
    rw [e3]
    rw [← e2] at e1
    generalize putB b r = q at *
    clear e2 e3
    generalize 2 ^ (r - 64) = p at *
    go_enter Try.func95, Try.ntmps95
    go_wp2_with fail
    refine (rank_yes r _ hr).mono ?_
    rintro e w1 ⟨rfl, rfl⟩
    go_wp2_with fail
    refine (cp _).mono ?_
    rintro e w1 ⟨rfl, rfl⟩
    go_wp2
    refine bodyPost_ret (v := .agg #[.int .u64 (a : Int), .int .u64 (q : Int)]) (by simp [results, Try.results95, go_sem]) rfl ⟨rfl, ?_⟩
    exact (((Below.refl _ _).alloc (Nat.le_refl _) _).alloc (by simp) _)
theorem with_no (a b : Nat) (x : Int) (w : World) (hx : ¬ (0 ≤ x ∧ x < 128)) :
    Calls Try.prog 95 #[.agg #[.int .u64 (a : Int), .int .u64 (b : Int)], .int .i64 x] w fun e w' => e = .returned (.agg #[.int .u64 (a : Int), .int .u64 (b : Int)]) ∧ Below w.heap.size w w' := by
  go_enter Try.func95, Try.ntmps95
  go_wp2_with fail
  refine (rank_no x _ hx).mono ?_
  rintro e w1 ⟨rfl, rfl⟩
  go_wp2
  refine bodyPost_ret (v := .agg #[.int .u64 (a : Int), .int .u64 (b : Int)]) (by simp [results, Try.results95, go_sem]) rfl ⟨rfl, ?_⟩
  exact (((Below.refl _ _).alloc (Nat.le_refl _) _).alloc (by simp) _)
set_option maxRecDepth 100000 in
theorem mand_any (a b c d : Nat) (w : World) (ha : a < 18446744073709551616) (hb : b < 18446744073709551616) (hc : c < 18446744073709551616) (hd : d < 18446744073709551616) :
    Calls Try.prog 98 #[.agg #[.int .u64 (a : Int), .int .u64 (b : Int)], .agg #[.int .u64 (c : Int), .int .u64 (d : Int)]] w fun e w' => e = .returned (.agg #[.int .u64 ((a &&& c : Nat) : Int), .int .u64 ((b &&& d : Nat) : Int)]) ∧ Below w.heap.size w w' := by
  have e1 := u64_and_nat a c ha hc
  have e2 := u64_and_nat b d hb hd
  obtain ⟨x, hx⟩ : ∃ x, x = a &&& c := ⟨_, rfl⟩
  obtain ⟨y, hy⟩ : ∃ y, y = b &&& d := ⟨_, rfl⟩
  rw [← hx] at e1
  rw [← hy] at e2
  rw [← hx, ← hy]
  clear hx hy
  go_enter Try.func98, Try.ntmps98
  go_wp2
  refine bodyPost_ret (v := .agg #[.int .u64 (x : Int), .int .u64 (y : Int)]) (by simp [results, Try.results98, go_sem]) rfl ⟨rfl, ?_⟩
  exact ((((Below.refl _ _).alloc (Nat.le_refl _) _).alloc (by simp) _).alloc (by simp; omega) _)
set_option maxRecDepth 100000 in
theorem mor_any (a b c d : Nat) (w : World) (ha : a < 18446744073709551616) (hb : b < 18446744073709551616) (hc : c < 18446744073709551616) (hd : d < 18446744073709551616) :
    Calls Try.prog 99 #[.agg #[.int .u64 (a : Int), .int .u64 (b : Int)], .agg #[.int .u64 (c : Int), .int .u64 (d : Int)]] w fun e w' => e = .returned (.agg #[.int .u64 ((a ||| c : Nat) : Int), .int .u64 ((b ||| d : Nat) : Int)]) ∧ Below w.heap.size w w' := by
  have e1 := u64_or_nat a c ha hc
  have e2 := u64_or_nat b d hb hd
  obtain ⟨x, hx⟩ : ∃ x, x = a ||| c := ⟨_, rfl⟩
  obtain ⟨y, hy⟩ : ∃ y, y = b ||| d := ⟨_, rfl⟩
  rw [← hx] at e1
  rw [← hy] at e2
  rw [← hx, ← hy]
  clear hx hy
  go_enter Try.func99, Try.ntmps99
  go_wp2
  refine bodyPost_ret (v := .agg #[.int .u64 (x : Int), .int .u64 (y : Int)]) (by simp [results, Try.results99, go_sem]) rfl ⟨rfl, ?_⟩
  exact ((((Below.refl _ _).alloc (Nat.le_refl _) _).alloc (by simp) _).alloc (by simp; omega) _)
end Go.Proofs.Ytdmihbicpjmgjaa
