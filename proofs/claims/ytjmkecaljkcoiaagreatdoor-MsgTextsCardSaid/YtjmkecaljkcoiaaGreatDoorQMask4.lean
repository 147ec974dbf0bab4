import Derived.Maps.RangeWalk
import Derived.Test.YtjmkecaljkcoiaaGreatDoorQSortM
import Derived.Test.YtjmkecaljkcoiaaGreatDoorQTurn
import Derived.Outline
import Derived.Test.YtjmkecaljkcoiaaGreatDoorQOpenF
import Derived.Test.YtjmkecaljkcoiaaGreatDoorQMaskM
import Derived.Deep.WholeRow
import Derived.Test.YtjmkecaljkcoiaaGreatDoorQRowE
namespace Go.Proofs.YtjmkecaljkcoiaaGreatDoor
open Go.RowKit Go.Maps
set_option linter.unusedVariables false
set_option linter.unusedSimpArgs false
def SetD (w : World) (g : Nat) (acc : List Pr) : Prop :=
  ∃ D : DataW Unit, w.ownsMap Tryz.prog 44 unitElem g acc.length D ∧ (∀ p : Pr, Maps.has D p.key = decide (p ∈ acc)) ∧ Maps.size D = acc.length ∧ acc.Nodup
def SetAt (w : World) (b : Nat) (mg : Option Nat) (acc : List Pr) : Prop :=
  w.heap[b]? = some (.cells #[.map mg] 173 (0, 0)) ∧ ((mg = none ∧ acc = []) ∨ ∃ g, mg = some g ∧ SetD w g acc)
theorem ownsMap_tight {P : Program} {k : TypeId} {R : Value → Option (DataW Unit × List MemPlace)} {w : World} {b n m : Nat} {D : DataW Unit} (h : w.ownsMap P k R b n D) (hm : Maps.size D ≤ m) : w.ownsMap P k R b m D := by
  obtain ⟨es, clock, hb, F, hs, hD⟩ := h
  refine ⟨es, clock, hb, F, ?_, hD⟩
  subst hD
  simpa [Maps.size, length_sorted] using hm
theorem keyLit (p : Pr) : WideAt.IsKeyLit p.key := lawPid.key (key_pr p)
section
variable {w w' : World} {b g : Nat} {mg : Option Nat} {acc l : List Pr}
theorem SetD.lt (h : SetD w g acc) : g < w.heap.size := by
  obtain ⟨D, h1, _⟩ := h
  exact h1.lt
theorem SetD.block (h : SetD w g acc) (hb : w'.heap[g]? = w.heap[g]?) : SetD w' g acc := by
  obtain ⟨D, ⟨es, clock, h1, r⟩, h2⟩ := h
  exact ⟨D, ⟨es, clock, hb.trans h1, r⟩, h2⟩
theorem SetD.nodup (h : SetD w g acc) : acc.Nodup := by
  obtain ⟨D, _, _, _, h⟩ := h
  exact h
theorem SetD.same (h : SetD w g acc) (hn : l.Nodup) (hm : ∀ p, p ∈ l ↔ p ∈ acc) : SetD w g l := by
  obtain ⟨D, h1, h2, h3, h4⟩ := h
  have e : l.length = acc.length := ((List.perm_ext_iff_of_nodup hn h4).2 hm).length_eq
  exact ⟨D, by rw [e]; exact h1, fun p => by rw [h2 p, decide_eq_decide.2 (hm p).symm], by rw [e]; exact h3, hn⟩
theorem SetD.made (w : World) : SetD (w.alloc (.map #[] 0)) w.heap.size [] := ⟨.map [], World.ownsMap_made _ _ _ _, fun p => by simp [Maps.has], rfl, List.nodup_nil⟩
theorem SetD.put {n : Nat} {D : DataW Unit} {q : Pr} (hD : w.ownsMap Tryz.prog 44 unitElem g n D) (hh : ∀ p : Pr, Maps.has D p.key = decide (p ∈ acc)) (hs : Maps.size D = acc.length) (hn : acc.Nodup) (hq : q ∉ acc) (d : DataW Unit) {m : Nat}
    (h' : w'.ownsMap Tryz.prog 44 unitElem g m (D.put q.key d)) : SetD w' g (acc ++ [q]) := by
  have e1 : Maps.size (D.put q.key d) = (acc ++ [q]).length := by
    rw [size_put (hD.tidy lawPid), hh q, decide_eq_false hq]; simp [hs]
  refine ⟨_, ownsMap_tight h' (Nat.le_of_eq e1), fun p => ?_, e1, List.nodup_append.2 ⟨hn, by simp, fun a ha c hc => by rw [List.mem_singleton] at hc; subst hc; exact fun e => hq (e ▸ ha)⟩⟩
  by_cases e : p = q
  · subst e
    rw [has_put_same hD.isMap (keyLit p) d]
    simp
  · rw [has_put_other (fun e' => e (Pr.key_inj e')) d, hh p]
    simp [e]
theorem SetAt.lt (h : SetAt w b mg acc) : b < w.heap.size := (Array.getElem?_eq_some_iff.1 h.1).1
theorem SetAt.mlt (h : SetAt w b mg acc) : ∀ g, mg = some g → g < w.heap.size ∧ g ≠ b := by
  intro g hg
  subst hg
  rcases h.2 with ⟨h0, _⟩ | ⟨g', hg', hd⟩
  · cases h0
  · injection hg' with e
    subst e
    refine ⟨hd.lt, fun e => ?_⟩
    obtain ⟨D, ⟨es, clock, h1, _⟩, _⟩ := hd
    rw [e, h.1] at h1
    cases h1
theorem SetAt.nodup (h : SetAt w b mg acc) : acc.Nodup := by
  rcases h.2 with ⟨_, rfl⟩ | ⟨g, _, hd⟩
  · exact List.nodup_nil
  · exact hd.nodup
theorem SetAt.keep (h : SetAt w b mg acc) (h1 : w'.heap[b]? = w.heap[b]?) (h2 : ∀ g, mg = some g → w'.heap[g]? = w.heap[g]?) : SetAt w' b mg acc := by
  refine ⟨h1.trans h.1, ?_⟩
  rcases h.2 with h0 | ⟨g, hg, hd⟩
  · exact .inl h0
  · exact .inr ⟨g, hg, hd.block (h2 g hg)⟩
theorem SetAt.below {B : Nat} (h : SetAt w b mg acc) (hb : Below B w w') (hB : b < B) (hm : ∀ g, mg = some g → g < B) : SetAt w' b mg acc := h.keep (hb.block b hB) fun g hg => hb.block g (hm g hg)
theorem SetAt.later (h : SetAt w b mg acc) (hb : Below w.heap.size w w') : SetAt w' b mg acc := h.below hb h.lt fun g hg => (h.mlt g hg).1
theorem SetAt.alloc (h : SetAt w b mg acc) (o : Obj) : SetAt (w.alloc o) b mg acc := h.later ((Below.refl _ _).alloc (Nat.le_refl _) o)
theorem SetAt.drewN (h : SetAt w b mg acc) (n : Nat) : SetAt (w.drewN n) b mg acc := h
theorem SetAt.drew (h : SetAt w b mg acc) : SetAt w.drew b mg acc := h
theorem SetAt.cell (h : SetAt w b mg acc) : w.cell? ⟨b, 0, none⟩ = some (.map mg) := cell_of_row w b 0 _ _ (0, 0) h.1
theorem SetAt.frozen (h : SetAt w b mg acc) : w.frozen? ⟨b, 0, none⟩ = false := by simp [World.frozen?, h.1]
theorem SetAt.same (h : SetAt w b mg acc) (hn : l.Nodup) (hm : ∀ p, p ∈ l ↔ p ∈ acc) : SetAt w b mg l := by
  refine ⟨h.1, ?_⟩
  rcases h.2 with ⟨h0, rfl⟩ | ⟨g, hg, hd⟩
  · exact .inl ⟨h0, List.eq_nil_iff_forall_not_mem.2 fun p hp => by have := (hm p).1 hp; simp at this⟩
  · exact .inr ⟨g, hg, hd.same hn hm⟩
theorem SetAt.look (h : SetAt w b mg acc) (p : Pr) : (Instr.lookup 171 (.map mg) (.agg #[.int .u16 p.i, .int .u32 p.k]) true).run Tryz.prog w = .ok (.tuple #[.agg #[], .bool (decide (p ∈ acc))]) w := by
  rcases h.2 with ⟨rfl, rfl⟩ | ⟨g, rfl, D, hD, hh, _, _⟩
  · rw [Maps.look_nil true lawPid Tryz.underlying171 (zeroUnit w) (key_pr p)]
    simp
  · obtain ⟨v, ps, hrun, hv⟩ := hD.look_ok lawPid Tryz.underlying171 (zeroUnit w) unitElem_mk (key_pr p)
    obtain ⟨rfl, _⟩ := unitElem_inv hv
    rw [hrun, hh p]
theorem SetAt.size (h : SetAt w b mg acc) (ty : TypeId) : (Builtin.len_ #[171] ty #[.map mg]).run Tryz.prog w = .ok (.int .i64 acc.length) w := by
  rcases h.2 with ⟨rfl, rfl⟩ | ⟨g, rfl, D, hD, _, hs, _⟩
  · exact Maps.len_nil Tryz.underlying171 ty
  · rw [hD.len Tryz.underlying171 ty, hs]
end
section
variable {w w' w2 : World} {b g : Nat} {mg mg' mg2 : Option Nat} {acc l : List Pr}
theorem OwnE.turn {base n : Nat} {v : Value} (h : OwnP w base v n l) (hs : SetAt w b mg acc) (ht : Turn w w' b mg) : OwnP w' base v n l := by
  refine ⟨h.1, ?_⟩
  rcases h.2 with hn | ⟨g, cap, cur, rfl, hbg, hg, r⟩
  · exact .inl hn
  · refine .inr ⟨g, cap, cur, rfl, hbg, (ht.block g (Array.getElem?_eq_some_iff.1 hg).1 (fun e => ?_) (fun e => ?_)).trans hg, r⟩
    · rw [e, hs.1] at hg
      injection hg with hg
      injection hg with _ e2
      exact absurd e2 (by decide)
    · rcases hs.2 with ⟨h0, _⟩ | ⟨g', h0, D, ⟨es, clock, h1, _⟩, _⟩
      · rw [h0] at e; cases e
      · rw [h0] at e
        injection e with e
        subst e
        rw [hg] at h1
        cases h1
end
end Go.Proofs.YtjmkecaljkcoiaaGreatDoor
namespace Go.Proofs.YtjmkecaljkcoiaaGreatDoor
open Go.RowKit
set_option linter.unusedVariables false
set_option linter.unusedSimpArgs false
def rankB (x : Int) : Bool := decide (0 ≤ x) && decide (x < 128)
set_option maxRecDepth 100000 in
theorem rank_yes (r : Nat) (w : World) (hr : r < 128) :
    Calls Tryz.prog 180 #[.int .i64 r] w fun e w' => e = .returned (.bool true) ∧ w = w' := by
  go_enter Tryz.func180, Tryz.ntmps180
  go_wp2
  go_ret
  exact ⟨ret_bool (decide_eq_true (by omega)), rfl⟩
theorem i64_and_63 (r : Nat) (hr : r < 128) : bits .and .i64 (r : Int) 63 = ((r % 64 : Nat) : Int) := by
  show IntKind.i64.wrap ((BitVec.ofInt 64 (r : Int) &&& BitVec.ofInt 64 63).toNat : Int) = _
  rw [BitVec.toNat_and, BitVec.ofInt_natCast, show BitVec.ofInt 64 63 = BitVec.ofNat 64 63 from rfl, BitVec.toNat_ofNat, BitVec.toNat_ofNat, Nat.mod_eq_of_lt (show r < 2 ^ 64 by omega), show 63 % 2 ^ 64 = 63 from rfl, nat_mask6, IntKind.wrap_i64]
  omega
theorem wrap_pow {r : Nat} (h : r < 64) : IntKind.u64.wrap ((2 : Int) ^ r) = ((2 ^ r : Nat) : Int) := by
  have hp := pow_lt64 h
  have e : ((2 ^ r : Nat) : Int) = (2 : Int) ^ r := by push_cast; rfl
  rw [IntKind.wrap_u64, ← e]
  generalize 2 ^ r = p at *
  omega
theorem ret_pair {a b c d : Value} (h1 : a = c) (h2 : b = d) : Ending.returned (.tuple #[a, b]) = .returned (.tuple #[c, d]) := by rw [h1, h2]
set_option maxRecDepth 100000 in
theorem place_lo (r : Nat) (w : World) (hr : r < 64) :
    Calls Tryz.prog 181 #[.int .i64 r] w fun e w' => e = .returned (.tuple #[.int .i64 0, .int .u64 ((2 ^ r : Nat) : Int)]) ∧ w = w' := by
  have h1 := i64_and_63 r (by omega)
  rw [Nat.mod_eq_of_lt hr] at h1
  have hp := pow_lt64 hr
  go_enter Tryz.func181, Tryz.ntmps181
  go_wp2
  go_ret2
  exact ⟨ret_pair (a := .int .i64 ((r : Int) / 64)) (b := .int .u64 (IntKind.u64.wrap (2 ^ r))) (by congr 1; omega) (by rw [wrap_pow hr]), rfl⟩
set_option maxRecDepth 100000 in
theorem place_hi (r : Nat) (w : World) (h0 : ¬ r < 64) (hr : r < 128) :
    Calls Tryz.prog 181 #[.int .i64 r] w fun e w' => e = .returned (.tuple #[.int .i64 1, .int .u64 ((2 ^ (r - 64) : Nat) : Int)]) ∧ w = w' := by
  have h1 := i64_and_63 r (by omega)
  obtain ⟨m, hm⟩ : ∃ m, m = r - 64 := ⟨_, rfl⟩
  have hm64 : m < 64 := by omega
  rw [show r % 64 = m from by omega] at h1
  rw [← hm]
  have HM := hide hm
  clear hm
  have hp := pow_lt64 hm64
  go_enter Tryz.func181, Tryz.ntmps181
  go_wp2
  go_ret2
  exact ⟨ret_pair (a := .int .i64 ((r : Int) / 64)) (b := .int .u64 (IntKind.u64.wrap (2 ^ m))) (by congr 1; omega) (by rw [wrap_pow hm64]), rfl⟩
set_option maxRecDepth 100000 in
theorem with_any (a b r : Nat) (w : World) (ha : a < 18446744073709551616) (hb : b < 18446744073709551616) (hr : r < 128) :
    Calls Tryz.prog 126 #[.agg #[.int .u64 a, .int .u64 b], .int .i64 r] w fun e w' => e = .returned (.agg #[.int .u64 ((putA a r : Nat) : Int), .int .u64 ((putB b r : Nat) : Int)]) ∧ Below w.heap.size w w' := by
  by_cases h : r < 64
  · have e1 := u64_or_nat a (2 ^ r) ha (pow_lt64 h)
    have cp := fun W => place_lo r W h
    have e2 : putA a r = _ := if_pos h
    have e3 : putB b r = b := if_pos h
    rw [e3]
    rw [← e2] at e1
    generalize putA a r = q at *
    clear e2 e3
    generalize 2 ^ r = p at *
    go_enter Tryz.func126, Tryz.ntmps126
    go_wp2_with fail
    refine (rank_yes r _ hr).mono ?_
    rintro e w1 ⟨rfl, rfl⟩
    go_wp2_with fail
    refine (cp _).mono ?_
    rintro e w1 ⟨rfl, rfl⟩
    go_wp2
    refine bodyPost_ret (v := .agg #[.int .u64 q, .int .u64 b]) (by simp [results, Tryz.results126, go_sem]) rfl ⟨rfl, ?_⟩
    exact (((Below.refl _ _).alloc (Nat.le_refl _) _).alloc (by simp) _)
  · have e1 := u64_or_nat b (2 ^ (r - 64)) hb (pow_lt64 (by omega))
    have cp := fun W => place_hi r W h hr
    have e2 : putB b r = _ := if_neg h
    have e3 : putA a r = a := if_neg h
    rw [e3]
    rw [← e2] at e1
    generalize putB b r = q at *
    clear e2 e3
    generalize 2 ^ (r - 64) = p at *
    go_enter Tryz.func126, Tryz.ntmps126
    go_wp2_with fail
    refine (rank_yes r _ hr).mono ?_
    rintro e w1 ⟨rfl, rfl⟩
    go_wp2_with fail
    refine (cp _).mono ?_
    rintro e w1 ⟨rfl, rfl⟩
    go_wp2
    refine bodyPost_ret (v := .agg #[.int .u64 a, .int .u64 q]) (by simp [results, Tryz.results126, go_sem]) rfl ⟨rfl, ?_⟩
    exact (((Below.refl _ _).alloc (Nat.le_refl _) _).alloc (by simp) _)
set_option maxRecDepth 100000 in
theorem mand_any (a b c d : Nat) (w : World) (ha : a < 18446744073709551616) (hb : b < 18446744073709551616) (hc : c < 18446744073709551616) (hd : d < 18446744073709551616) :
    Calls Tryz.prog 129 #[.agg #[.int .u64 a, .int .u64 b], .agg #[.int .u64 c, .int .u64 d]] w fun e w' => e = .returned (.agg #[.int .u64 ((a &&& c : Nat) : Int), .int .u64 ((b &&& d : Nat) : Int)]) ∧ Below w.heap.size w w' := by
  have e1 := u64_and_nat a c ha hc
  have e2 := u64_and_nat b d hb hd
  obtain ⟨x, hx⟩ : ∃ x, x = a &&& c := ⟨_, rfl⟩
  obtain ⟨y, hy⟩ : ∃ y, y = b &&& d := ⟨_, rfl⟩
  rw [← hx] at e1
  rw [← hy] at e2
  rw [← hx, ← hy]
  clear hx hy
  go_enter Tryz.func129, Tryz.ntmps129
  go_wp2
  refine bodyPost_ret (v := .agg #[.int .u64 x, .int .u64 y]) (by simp [results, Tryz.results129, go_sem]) rfl ⟨rfl, ?_⟩
  exact ((((Below.refl _ _).alloc (Nat.le_refl _) _).alloc (by simp) _).alloc (by simp; omega) _)
set_option maxRecDepth 100000 in
theorem mor_any (a b c d : Nat) (w : World) (ha : a < 18446744073709551616) (hb : b < 18446744073709551616) (hc : c < 18446744073709551616) (hd : d < 18446744073709551616) :
    Calls Tryz.prog 130 #[.agg #[.int .u64 a, .int .u64 b], .agg #[.int .u64 c, .int .u64 d]] w fun e w' => e = .returned (.agg #[.int .u64 ((a ||| c : Nat) : Int), .int .u64 ((b ||| d : Nat) : Int)]) ∧ Below w.heap.size w w' := by
  have e1 := u64_or_nat a c ha hc
  have e2 := u64_or_nat b d hb hd
  obtain ⟨x, hx⟩ : ∃ x, x = a ||| c := ⟨_, rfl⟩
  obtain ⟨y, hy⟩ : ∃ y, y = b ||| d := ⟨_, rfl⟩
  rw [← hx] at e1
  rw [← hy] at e2
  rw [← hx, ← hy]
  clear hx hy
  go_enter Tryz.func130, Tryz.ntmps130
  go_wp2
  refine bodyPost_ret (v := .agg #[.int .u64 x, .int .u64 y]) (by simp [results, Tryz.results130, go_sem]) rfl ⟨rfl, ?_⟩
  exact ((((Below.refl _ _).alloc (Nat.le_refl _) _).alloc (by simp) _).alloc (by simp; omega) _)
end Go.Proofs.YtjmkecaljkcoiaaGreatDoor
namespace Go.Proofs.YtjmkecaljkcoiaaGreatDoor
open Go.RowKit
set_option linter.unusedVariables false
set_option linter.unusedSimpArgs false
theorem wrap_ones {r : Nat} (h : r < 64) : IntKind.u64.wrap (IntKind.u64.wrap ((2 : Int) ^ r) - 1) = ((2 ^ r - 1 : Nat) : Int) := by
  have hp := pow_lt64 h
  have h1 : 0 < 2 ^ r := Nat.pow_pos (by decide)
  rw [wrap_pow h, IntKind.wrap_u64]
  generalize 2 ^ r = p at *
  omega
set_option maxRecDepth 100000 in
theorem run_any (k : Nat) (w : World) (hk : k ≤ 64) :
    Calls Tryz.prog 182 #[.int .i64 k] w fun e w' => e = .returned (.int .u64 ((2 ^ k - 1 : Nat) : Int)) ∧ w = w' := by
  by_cases h : k = 64
  · subst h
    go_enter Tryz.func182, Tryz.ntmps182
    go_wp2
    go_ret
    exact ⟨ret_int (by decide), rfl⟩
  · have hp := wrap_ones (r := k) (by omega)
    go_enter Tryz.func182, Tryz.ntmps182
    go_wp2
    go_ret
    exact ⟨ret_int (by first | rfl | exact hp), rfl⟩
set_option maxRecDepth 100000 in
theorem first_any (k : Nat) (w : World) (hk : k ≤ 128) :
    Calls Tryz.prog 131 #[.int .i64 k] w fun e w' => e = .returned (.agg #[.int .u64 ((fstA k : Nat) : Int), .int .u64 ((fstB k : Nat) : Int)]) ∧ Below w.heap.size w w' := by
  rcases Nat.lt_trichotomy k 64 with h | h | h
  · have c1 := fun W => run_any k W (by omega)
    have c2 := fun W => run_any 0 W (by decide)
    rw [show fstA k = 2 ^ k - 1 from by unfold fstA; rw [Nat.min_eq_left (show k ≤ 64 by omega)], show fstB k = 2 ^ 0 - 1 from by unfold fstB; rw [Nat.sub_eq_zero_of_le (show k ≤ 64 by omega)]]
    generalize 2 ^ k - 1 = p at *
    generalize 2 ^ 0 - 1 = q at *
    have h1 : ¬ 0 ≤ (k : Int) - 64 := by omega
    go_enter Tryz.func131, Tryz.ntmps131
    go_wp2_with fail
    refine (c1 _).mono ?_
    rintro e w1 ⟨rfl, rfl⟩
    go_wp2_with fail
    refine (c2 _).mono ?_
    rintro e w1 ⟨rfl, rfl⟩
    go_wp2
    refine bodyPost_ret (v := .agg #[.int .u64 p, .int .u64 q]) (by simp [results, Tryz.results131, go_sem]) rfl ⟨rfl, ?_⟩
    exact ((Below.refl _ _).alloc (Nat.le_refl _) _)
  · subst h
    have c1 := fun W => run_any 64 W (by omega)
    have c2 := fun W => run_any 0 W (by decide)
    rw [show fstA 64 = 2 ^ 64 - 1 from rfl, show fstB 64 = 2 ^ 0 - 1 from rfl]
    generalize 2 ^ 64 - 1 = p at *
    generalize 2 ^ 0 - 1 = q at *
    go_enter Tryz.func131, Tryz.ntmps131
    go_wp2_with fail
    refine (c1 _).mono ?_
    rintro e w1 ⟨rfl, rfl⟩
    go_wp2_with fail
    refine (c2 _).mono ?_
    rintro e w1 ⟨rfl, rfl⟩
    go_wp2
    refine bodyPost_ret (v := .agg #[.int .u64 p, .int .u64 q]) (by simp [results, Tryz.results131, go_sem]) rfl ⟨rfl, ?_⟩
    exact ((Below.refl _ _).alloc (Nat.le_refl _) _)
  · obtain ⟨m, rfl⟩ : ∃ m, k = m + 64 := ⟨k - 64, by omega⟩
    have c1 := fun W => run_any 64 W (by omega)
    have c2 := fun W => run_any m W (by omega)
    rw [show fstA (m + 64) = 2 ^ 64 - 1 from by unfold fstA; rw [Nat.min_eq_right (by omega)], show fstB (m + 64) = 2 ^ m - 1 from by unfold fstB; rw [Nat.add_sub_cancel]]
    generalize 2 ^ 64 - 1 = p at *
    generalize 2 ^ m - 1 = q at *
    have h1 : ¬ ((m + 64 : Nat) : Int) ≤ 64 := by omega
    have h2 : 0 ≤ ((m + 64 : Nat) : Int) - 64 := by omega
    have h3 : ((m + 64 : Nat) : Int) - 64 = (m : Int) := by omega
    go_enter Tryz.func131, Tryz.ntmps131
    go_wp2_with fail
    refine (c1 _).mono ?_
    rintro e w1 ⟨rfl, rfl⟩
    go_wp2_with fail
    refine (c2 _).mono ?_
    rintro e w1 ⟨rfl, rfl⟩
    go_wp2
    refine bodyPost_ret (v := .agg #[.int .u64 p, .int .u64 q]) (by simp [results, Tryz.results131, go_sem]) rfl ⟨rfl, ?_⟩
    exact ((Below.refl _ _).alloc (Nat.le_refl _) _)
def popTo (a b : Nat) : Nat → Nat
  | 0 => 0
  | 1 => popW a
  | _ => popW a + popW b
theorem and_one (y : Nat) (hy : y < 18446744073709551616) : bits .and .u64 (y : Int) 1 = ((y % 2 : Nat) : Int) := by
  have := u64_and_nat y 1 hy (by decide)
  rw [nat_mask1] at this
  exact this
theorem index_0 (a b : Nat) (w : World) : (Instr.index 164 (.agg #[.int .u64 a, .int .u64 b]) (.int .i64 0)).run Tryz.prog w = .ok (.int .u64 a) w := by
  simp [Instr.index, go_sem, asIntOf, part]
theorem index_1 (a b : Nat) (w : World) : (Instr.index 164 (.agg #[.int .u64 a, .int .u64 b]) (.int .i64 1)).run Tryz.prog w = .ok (.int .u64 b) w := by
  simp [Instr.index, go_sem, asIntOf, part]
set_option maxRecDepth 100000 in
theorem count_any (a b : Nat) (w : World) (ha : a < 18446744073709551616) (hb : b < 18446744073709551616) :
    Calls Tryz.prog 127 #[.agg #[.int .u64 a, .int .u64 b]] w fun e w' => e = .returned (.int .i64 (popM a b : Nat)) ∧ Below w.heap.size w w' := by
  rw [popM_eq]
  have hbw : Below w.heap.size w (w.alloc (.cells #[.int .u64 a, .int .u64 b] 164)) := (Below.refl _ _).alloc (Nat.le_refl _) _
  have hX0 := index_0 a b
  have hX1 := index_1 a b
  go_enter Tryz.func127, Tryz.ntmps127
  go_wp2
  go_loop [3, 7] (fun v i => ∃ j n : Nat, j ≤ 2 ∧ i = .int .i64 j ∧ v = .int .i64 n ∧ n = popTo a b j) (fun _ i => 2 - (intOf i).toNat)
  case atStart => exact ⟨0, 0, by omega, rfl, rfl, rfl⟩
  case round =>
    obtain ⟨j, n, hj, rfl, rfl, hn⟩ := hrel
    have HN := hide hn
    clear hn
    obtain rfl | rfl | rfl : j = 0 ∨ j = 1 ∨ j = 2 := by omega
    · have h0 := PopInv.start a n
      have hn0 : n ≤ 64 := by rw [HN.out]; have := popW_le a; simp only [popTo]; omega
      go_wp2
      go_loop [3, 5] (fun v y => ∃ j n' y' : Nat, v = .int .i64 n' ∧ y = .int .u64 y' ∧ PopInv a n j n' y') (fun _ y => (intOf y).toNat)
      case atStart => exact ⟨0, n, a, rfl, rfl, h0⟩
      case round =>
        obtain ⟨j, n', y', rfl, rfl, hinv⟩ := hrel
        have hs := hinv.small
        have hf := hinv.fits ha
        by_cases hy : y' = 0
        · subst hy
          have e := hinv.stop
          have HE := hide e
          clear e
          go_wp2
          go_round
          case rel => exact ⟨1, n', by omega, by go_num, rfl, by rw [HE.out, HN.out]; simp [popTo]⟩
          case measure => simp [intOf]
        · have hy' : ((y' : Int) != 0) = true := by simp only [bne_iff_ne, ne_eq]; omega
          have hi := hinv.step ha hy
          have ho := and_one y' hf
          obtain ⟨d, hd⟩ : ∃ d, d = y' % 2 := ⟨_, rfl⟩
          have hd2 : d < 2 := by omega
          rw [← hd] at ho hi
          clear hd
          go_wp2
          go_round
          case rel => exact ⟨j + 1, n' + d, y' / 2, by go_num, by go_num, hi⟩
          case measure => simp [intOf]; omega
    · have h0 := PopInv.start b n
      have hn0 : n ≤ 64 := by rw [HN.out]; have := popW_le a; simp only [popTo]; omega
      go_wp2
      go_loop [3, 5] (fun v y => ∃ j n' y' : Nat, v = .int .i64 n' ∧ y = .int .u64 y' ∧ PopInv b n j n' y') (fun _ y => (intOf y).toNat)
      case atStart => exact ⟨0, n, b, rfl, rfl, h0⟩
      case round =>
        obtain ⟨j, n', y', rfl, rfl, hinv⟩ := hrel
        have hs := hinv.small
        have hf := hinv.fits hb
        by_cases hy : y' = 0
        · subst hy
          have e := hinv.stop
          have HE := hide e
          clear e
          go_wp2
          go_round
          case rel => exact ⟨2, n', by omega, by go_num, rfl, by rw [HE.out, HN.out]; simp [popTo]⟩
          case measure => simp [intOf]
        · have hy' : ((y' : Int) != 0) = true := by simp only [bne_iff_ne, ne_eq]; omega
          have hi := hinv.step hb hy
          have ho := and_one y' hf
          obtain ⟨d, hd⟩ : ∃ d, d = y' % 2 := ⟨_, rfl⟩
          have hd2 : d < 2 := by omega
          rw [← hd] at ho hi
          clear hd
          go_wp2
          go_round
          case rel => exact ⟨j + 1, n' + d, y' / 2, by go_num, by go_num, hi⟩
          case measure => simp [intOf]; omega
    · go_wp2
      go_ret
      exact ⟨ret_int (by rw [HN.out]; rfl), hbw⟩
end Go.Proofs.YtjmkecaljkcoiaaGreatDoor
namespace Go.Proofs.YtjmkecaljkcoiaaGreatDoor
open Go.RowKit
set_option linter.unusedVariables false
set_option linter.unusedSimpArgs false
end Go.Proofs.YtjmkecaljkcoiaaGreatDoor
namespace Go.Proofs.YtjmkecaljkcoiaaGreatDoor
open Go.RowKit
set_option linter.unusedVariables false
set_option linter.unusedSimpArgs false
def MAt (w : World) (b x y : Nat) : Prop := w.heap[b]? = some (.cells #[.int .u64 x, .int .u64 y] 164 (0, 0))
section
variable {w w' : World} {b x y : Nat}
theorem MAt.c0 (h : MAt w b x y) : w.cell? ⟨b, 0, none⟩ = some (.int .u64 x) := cell_of_row w b 0 _ _ _ h
theorem MAt.c1 (h : MAt w b x y) : w.cell? ⟨b, 1, none⟩ = some (.int .u64 y) := cell_of_row w b 1 _ _ _ h
theorem MAt.fz (h : MAt w b x y) (j : Nat) : w.frozen? ⟨b, j, none⟩ = false := frozen_of_row w b j _ _ h
theorem MAt.lt (h : MAt w b x y) : b < w.heap.size := (Array.getElem?_eq_some_iff.1 h).1
theorem MAt.below {B : Nat} (h : MAt w b x y) (hb : Below B w w') (hB : b < B) : MAt w' b x y := (hb.block b hB).trans h
theorem MAt.later (h : MAt w b x y) (hb : Below w.heap.size w w') : MAt w' b x y := h.below hb h.lt
theorem MAt.alloc (h : MAt w b x y) (o : Obj) : MAt (w.alloc o) b x y := (Below.heap_alloc w o b h.lt).trans h
theorem MAt.mk_ (w : World) (x y : Nat) : MAt (w.alloc (.cells #[.int .u64 x, .int .u64 y] 164)) w.heap.size x y := heap_alloc_new w _
theorem MAt.other (h : MAt w b x y) {a : Addr} (v : Value) (hb : b ≠ a.block) : MAt (w.setCell a v) b x y := (heap_setCell_other w a b v hb).trans h
theorem MAt.set_ (h : MAt w b x y) (p q : Nat) : MAt ((w.setCell ⟨b, 0, none⟩ (.int .u64 p)).setCell ⟨b, 1, none⟩ (.int .u64 q)) b p q := by
  have h1 := heap_setCell_same w b 0 _ _ (.int .u64 p) h
  have h2 := heap_setCell_same _ b 1 _ _ (.int .u64 q) h1
  exact h2
end
def inC (x : Int) : List Value := [.int .i64 x]
def ofP (l : List Int) (i : Nat) : Bool := decide ((i : Int) ∈ l)
structure OfInv (l : List Int) (k a b : Nat) : Prop where
  lo : a = loM (ofP (l.take k))
  hi : b = hiM (ofP (l.take k))
theorem ofP_nil (i : Nat) : ofP [] i = false := by simp [ofP]
theorem OfInv.start (l : List Int) : OfInv l 0 0 0 := by
  have h := mask_of (a := 0) (b := 0) (p := ofP []) (by decide) (by decide) (fun i _ => by rw [zero_bit, ofP_nil])
  exact ⟨by rw [List.take_zero, h.1], by rw [List.take_zero, h.2]⟩
theorem OfInv.la {l : List Int} {k a b : Nat} (h : OfInv l k a b) : a < 18446744073709551616 := by rw [h.lo]; exact loM_lt _
theorem OfInv.lb {l : List Int} {k a b : Nat} (h : OfInv l k a b) : b < 18446744073709551616 := by rw [h.hi]; exact hiM_lt _
theorem OfInv.yes {l : List Int} {k a b r : Nat} (h : OfInv l k a b) (hk : k < l.length) (hr : r < 128) (he : l[k] = (r : Int)) : OfInv l (k + 1) (putA a r) (putB b r) := by
  have hm := mask_of (p := ofP (l.take (k + 1))) (putA_lt (r := r) h.la) (putB_lt h.lb hr) (fun i hi => by
    rw [put_bit a b r i hr hi, h.lo, h.hi, bit_of _ i hi, List.take_succ_eq_append_getElem hk, he]
    unfold ofP
    rw [Bool.eq_iff_iff]
    have e : ((i : Int) = (r : Int)) ↔ i = r := by omega
    simp only [Bool.or_eq_true, decide_eq_true_eq, List.mem_append, List.mem_singleton, e])
  exact ⟨hm.1.symm, hm.2.symm⟩
theorem OfInv.no {l : List Int} {k a b : Nat} (h : OfInv l k a b) (hk : k < l.length) (hr : ¬ (0 ≤ l[k] ∧ l[k] < 128)) : OfInv l (k + 1) a b := by
  have hm := of_congr (p := ofP (l.take (k + 1))) (q := ofP (l.take k)) (fun i hi => by
    rw [List.take_succ_eq_append_getElem hk]
    unfold ofP
    rw [Bool.eq_iff_iff]
    simp only [decide_eq_true_eq, List.mem_append, List.mem_singleton]
    constructor
    · rintro (h | e)
      · exact h
      · exfalso
        rw [← e] at hr
        omega
    · exact Or.inl)
  exact ⟨by rw [hm.1]; exact h.lo, by rw [hm.2]; exact h.hi⟩
theorem OfInv.done {l : List Int} {k a b : Nat} (h : OfInv l k a b) (hk : l.length ≤ k) : a = loM (ofP l) ∧ b = hiM (ofP l) := by
  obtain ⟨h1, h2⟩ := h
  rw [List.take_of_length_le hk] at h1 h2
  exact ⟨h1, h2⟩
end Go.Proofs.YtjmkecaljkcoiaaGreatDoor
