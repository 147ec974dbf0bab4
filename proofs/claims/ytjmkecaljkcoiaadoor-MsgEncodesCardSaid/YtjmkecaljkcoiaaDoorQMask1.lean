import Derived.Laws.AppendOwn
import Derived.Test.YtjmkecaljkcoiaaDoorQOpenF
import Derived.Maps.RangeWalk
import Derived.Test.YtjmkecaljkcoiaaDoorQMaskM
import Derived.Test.YtjmkecaljkcoiaaDoorQKey3
import Derived.Outline
import Derived.Test.YtjmkecaljkcoiaaDoorQPr
namespace Go.Proofs.YtjmkecaljkcoiaaDoor
open Go.RowKit
set_option linter.unusedVariables false
structure Turn (w w' : World) (b : Nat) (mg : Option Nat) : Prop where
  os : w'.os = w.os
  tape : w'.tape = w.tape
  output : w'.output = w.output
  size : w.heap.size ≤ w'.heap.size
  block : ∀ i, i < w.heap.size → i ≠ b → some i ≠ mg → w'.heap[i]? = w.heap[i]?
def Mov (w : World) (mg mg' : Option Nat) : Prop := mg' = mg ∨ ∃ g, mg' = some g ∧ w.heap.size ≤ g
section
variable {w w' w2 : World} {b g : Nat} {mg mg' mg2 : Option Nat}
theorem Turn.refl (w : World) (b : Nat) (mg : Option Nat) : Turn w w b mg := ⟨rfl, rfl, rfl, Nat.le_refl _, fun _ _ _ _ => rfl⟩
theorem Turn.of_below (h : Below w.heap.size w w') (b : Nat) (mg : Option Nat) : Turn w w' b mg := ⟨h.os, h.tape, h.output, h.size, fun i hi _ _ => h.block i hi⟩
theorem Turn.of_grown {row : Option Nat} (h : w.grownBy w' row) (hr : ∀ i, row = some i → i = b ∨ some i = mg ∨ w.heap.size ≤ i) : Turn w w' b mg :=
  ⟨h.os, h.tape, h.output, h.size, fun i hi h1 h2 => h.block i hi fun e => by
    rcases hr i e.symm with h | h | h
    · exact h1 h
    · exact h2 h
    · omega⟩
theorem Turn.trans (h : Turn w w' b mg) (k : Turn w' w2 b mg') (hm : Mov w mg mg') : Turn w w2 b mg :=
  ⟨k.os.trans h.os, k.tape.trans h.tape, k.output.trans h.output, Nat.le_trans h.size k.size, fun i hi h1 h2 => (k.block i (Nat.lt_of_lt_of_le hi h.size) h1 fun e => by
    rcases hm with rfl | ⟨g, rfl, hg⟩
    · exact h2 e
    · injection e with e; omega).trans (h.block i hi h1 h2)⟩
theorem Mov.refl (w : World) (mg : Option Nat) : Mov w mg mg := .inl rfl
theorem Mov.trans (h : Mov w mg mg') (k : Mov w' mg' mg2) (hs : w.heap.size ≤ w'.heap.size) : Mov w mg mg2 := by
  rcases k with rfl | ⟨g, rfl, hg⟩
  · exact h
  · exact .inr ⟨g, rfl, by omega⟩
theorem Mov.base {base : Nat} (h : Mov w mg mg') (hm : ∀ g, mg = some g → base ≤ g) (hb : base ≤ w.heap.size) : ∀ g, mg' = some g → base ≤ g := by
  intro g hg
  rcases h with rfl | ⟨g', rfl, hg'⟩
  · exact hm g hg
  · injection hg with e; omega
theorem Turn.below {B : Nat} (h : Turn w w' b mg) (hB : B ≤ w.heap.size) (hb : B ≤ b) (hm : ∀ g, mg = some g → B ≤ g) : Below B w w' :=
  ⟨h.os, h.tape, h.output, h.size, fun i hi => h.block i (by omega) (by omega) fun e => by have := hm i e.symm; omega⟩
theorem Turn.set_ (h : Turn w w' b mg) {p : Addr} (hp : p.block = b) (u : Value) : Turn w (w'.setCell p u) b mg :=
  ⟨h.os, h.tape, h.output, Nat.le_trans h.size (by simp), fun i hi h1 h2 => (Below.heap_setCell w' p u i (by rw [hp]; exact h1)).trans (h.block i hi h1 h2)⟩
theorem Turn.alloc (h : Turn w w' b mg) (o : Obj) : Turn w (w'.alloc o) b mg :=
  ⟨h.os, h.tape, h.output, Nat.le_trans h.size (by simp), fun i hi h1 h2 => (Below.heap_alloc w' o i (Nat.lt_of_lt_of_le hi h.size)).trans (h.block i hi h1 h2)⟩
theorem Turn.drew (h : Turn w w' b mg) : Turn w w'.drew b mg := ⟨h.os, h.tape, h.output, h.size, h.block⟩
theorem Turn.later (h : Turn w w' b mg) (k : Below w'.heap.size w' w2) : Turn w w2 b mg :=
  ⟨k.os.trans h.os, k.tape.trans h.tape, k.output.trans h.output, Nat.le_trans h.size k.size, fun i hi h1 h2 => (k.block i (Nat.lt_of_lt_of_le hi h.size)).trans (h.block i hi h1 h2)⟩
theorem Turn.ahead (h : Below w.heap.size w w') (k : Turn w' w2 b mg) : Turn w w2 b mg :=
  ⟨k.os.trans h.os, k.tape.trans h.tape, k.output.trans h.output, Nat.le_trans h.size k.size, fun i hi h1 h2 => (k.block i (Nat.lt_of_lt_of_le hi h.size) h1 h2).trans (h.block i hi)⟩
theorem Turn.cell (h : Turn w w' b mg) {p : Addr} {v : Value} (hc : w.cell? p = some v) (h1 : p.block ≠ b) (h2 : some p.block ≠ mg) : w'.cell? p = some v :=
  (World.cell?_of_block (h.block p.block (World.block_lt_of_cell? w p hc) h1 h2)).trans hc
end
end Go.Proofs.YtjmkecaljkcoiaaDoor
namespace Go.Proofs.YtjmkecaljkcoiaaDoor
open Go.RowKit Go.Maps
set_option linter.unusedVariables false
set_option linter.unusedSimpArgs false
def SetD (w : World) (g : Nat) (acc : List Pr) : Prop :=
  ∃ D : DataW Unit, w.ownsMap Tryd.prog 25 unitElem g acc.length D ∧ (∀ p : Pr, Maps.has D p.key = decide (p ∈ acc)) ∧ Maps.size D = acc.length ∧ acc.Nodup
theorem ownsMap_tight {P : Program} {k : TypeId} {R : Value → Option (DataW Unit × List MemPlace)} {w : World} {b n m : Nat} {D : DataW Unit} (h : w.ownsMap P k R b n D) (hm : Maps.size D ≤ m) : w.ownsMap P k R b m D := by
  obtain ⟨es, clock, hb, F, hs, hD⟩ := h
  refine ⟨es, clock, hb, F, ?_, hD⟩
  subst hD
  simpa [Maps.size, length_sorted] using hm
theorem keyLit (p : Pr) : WideAt.IsKeyLit p.key := lawPid.key (key_pr p)
section
variable {w w' : World} {b g : Nat} {mg : Option Nat} {acc l : List Pr}
theorem SetD.lt (h : SetD w g acc) : g < w.heap.size := by
  obtain ⟨D, h1, _⟩ := h
  exact h1.lt
theorem SetD.block (h : SetD w g acc) (hb : w'.heap[g]? = w.heap[g]?) : SetD w' g acc := by
  obtain ⟨D, ⟨es, clock, h1, r⟩, h2⟩ := h
  exact ⟨D, ⟨es, clock, hb.trans h1, r⟩, h2⟩
theorem SetD.nodup (h : SetD w g acc) : acc.Nodup := by
  obtain ⟨D, _, _, _, h⟩ := h
  exact h
theorem SetD.same (h : SetD w g acc) (hn : l.Nodup) (hm : ∀ p, p ∈ l ↔ p ∈ acc) : SetD w g l := by
  obtain ⟨D, h1, h2, h3, h4⟩ := h
  have e : l.length = acc.length := ((List.perm_ext_iff_of_nodup hn h4).2 hm).length_eq
  exact ⟨D, by rw [e]; exact h1, fun p => by rw [h2 p, decide_eq_decide.2 (hm p).symm], by rw [e]; exact h3, hn⟩
theorem SetD.made (w : World) : SetD (w.alloc (.map #[] 0)) w.heap.size [] := ⟨.map [], World.ownsMap_made _ _ _ _, fun p => by simp [Maps.has], rfl, List.nodup_nil⟩
theorem SetD.put {n : Nat} {D : DataW Unit} {q : Pr} (hD : w.ownsMap Tryd.prog 25 unitElem g n D) (hh : ∀ p : Pr, Maps.has D p.key = decide (p ∈ acc)) (hs : Maps.size D = acc.length) (hn : acc.Nodup) (hq : q ∉ acc) (d : DataW Unit) {m : Nat}
    (h' : w'.ownsMap Tryd.prog 25 unitElem g m (D.put q.key d)) : SetD w' g (acc ++ [q]) := by
  have e1 : Maps.size (D.put q.key d) = (acc ++ [q]).length := by
    rw [size_put (hD.tidy lawPid), hh q, decide_eq_false hq]; simp [hs]
  refine ⟨_, ownsMap_tight h' (Nat.le_of_eq e1), fun p => ?_, e1, List.nodup_append.2 ⟨hn, by simp, fun a ha c hc => by rw [List.mem_singleton] at hc; subst hc; exact fun e => hq (e ▸ ha)⟩⟩
  by_cases e : p = q
  · subst e
    rw [has_put_same hD.isMap (keyLit p) d]
    simp
  · rw [has_put_other (fun e' => e (Pr.key_inj e')) d, hh p]
    simp [e]
end
section
variable {w w' w2 : World} {b g : Nat} {mg mg' mg2 : Option Nat} {acc l : List Pr}
end
end Go.Proofs.YtjmkecaljkcoiaaDoor
namespace Go.Proofs.YtjmkecaljkcoiaaDoor
open Go.RowKit
set_option linter.unusedVariables false
set_option linter.unusedSimpArgs false
def rankB (x : Int) : Bool := decide (0 ≤ x) && decide (x < 128)
set_option maxRecDepth 100000 in
theorem rank_yes (r : Nat) (w : World) (hr : r < 128) :
    Calls Tryd.prog 143 #[.int .i64 (r : Int)] w fun e w' => e = .returned (.bool true) ∧ w = w' := by
  go_enter Tryd.func143, Tryd.ntmps143
  go_wp2
  go_ret
  exact ⟨ret_bool (decide_eq_true (by omega)), rfl⟩
theorem i64_and_63 (r : Nat) (hr : r < 128) : bits .and .i64 (r : Int) 63 = ((r % 64 : Nat) : Int) := by
  show IntKind.i64.wrap ((BitVec.ofInt 64 (r : Int) &&& BitVec.ofInt 64 63).toNat : Int) = _
  rw [BitVec.toNat_and, BitVec.ofInt_natCast, show BitVec.ofInt 64 63 = BitVec.ofNat 64 63 from rfl, BitVec.toNat_ofNat, BitVec.toNat_ofNat, Nat.mod_eq_of_lt (show r < 2 ^ 64 by omega), show 63 % 2 ^ 64 = 63 from rfl, nat_mask6, IntKind.wrap_i64]
  omega
theorem wrap_pow {r : Nat} (h : r < 64) : IntKind.u64.wrap ((2 : Int) ^ r) = ((2 ^ r : Nat) : Int) := by
  have hp := pow_lt64 h
  have e : ((2 ^ r : Nat) : Int) = (2 : Int) ^ r := by push_cast; rfl
  rw [IntKind.wrap_u64, ← e]
  generalize 2 ^ r = p at *
  omega
theorem ret_pair {a b c d : Value} (h1 : a = c) (h2 : b = d) : Ending.returned (.tuple #[a, b]) = .returned (.tuple #[c, d]) := by rw [h1, h2]
set_option maxRecDepth 100000 in
theorem place_lo (r : Nat) (w : World) (hr : r < 64) :
    Calls Tryd.prog 144 #[.int .i64 (r : Int)] w fun e w' => e = .returned (.tuple #[.int .i64 0, .int .u64 ((2 ^ r : Nat) : Int)]) ∧ w = w' := by
  have h1 := i64_and_63 r (by omega)
  rw [Nat.mod_eq_of_lt hr] at h1
  have hp := pow_lt64 hr
  go_enter Tryd.func144, Tryd.ntmps144
  go_wp2
  go_ret2
  exact ⟨ret_pair (a := .int .i64 ((r : Int) / 64)) (b := .int .u64 (IntKind.u64.wrap (2 ^ r))) (by congr 1; omega) (by rw [wrap_pow hr]), rfl⟩
set_option maxRecDepth 100000 in
theorem place_hi (r : Nat) (w : World) (h0 : ¬ r < 64) (hr : r < 128) :
    Calls Tryd.prog 144 #[.int .i64 (r : Int)] w fun e w' => e = .returned (.tuple #[.int .i64 1, .int .u64 ((2 ^ (r - 64) : Nat) : Int)]) ∧ w = w' := by
  have h1 := i64_and_63 r (by omega)
  obtain ⟨m, hm⟩ : ∃ m, m = r - 64 := ⟨_, rfl⟩
  have hm64 : m < 64 := by omega
  rw [show r % 64 = m from by omega] at h1
  rw [← hm]
  have HM := hide hm
  clear hm
  have hp := pow_lt64 hm64
  go_enter Tryd.func144, Tryd.ntmps144
  go_wp2
  go_ret2
  exact ⟨ret_pair (a := .int .i64 ((r : Int) / 64)) (b := .int .u64 (IntKind.u64.wrap (2 ^ m))) (by congr 1; omega) (by rw [wrap_pow hm64]), rfl⟩
set_option maxRecDepth 100000 in
theorem with_any (a b r : Nat) (w : World) (ha : a < 18446744073709551616) (hb : b < 18446744073709551616) (hr : r < 128) :
    Calls Tryd.prog 131 #[.agg #[.int .u64 (a : Int), .int .u64 (b : Int)], .int .i64 (r : Int)] w fun e w' => e = .returned (.agg #[.int .u64 ((putA a r : Nat) : Int), .int .u64 ((putB b r : Nat) : Int)]) ∧ Below w.heap.size w w' := by
  by_cases h : r < 64
  · have e1 := u64_or_nat a (2 ^ r) ha (pow_lt64 h)
    have cp := fun W => place_lo r W h
    have e2 : putA a r = _ := if_pos h
    have e3 : putB b r = b := if_pos h
    rw [e3]
    rw [← e2] at e1
    generalize putA a r = q at *
    clear e2 e3
    generalize 2 ^ r = p at *
    go_enter Tryd.func131, Tryd.ntmps131
    go_wp2_with fail
    refine (rank_yes r _ hr).mono ?_
    rintro e w1 ⟨rfl, rfl⟩
    go_wp2_with fail
    refine (cp _).mono ?_
    rintro e w1 ⟨rfl, rfl⟩
    go_wp2
    refine bodyPost_ret (v := .agg #[.int .u64 (q : Int), .int .u64 (b : Int)]) (by simp [results, Tryd.results131, go_sem]) rfl ⟨rfl, ?_⟩
    exact (((Below.refl _ _).alloc (Nat.le_refl _) _).alloc (by simp) _)
  · have e1 := u64_or_nat b (2 ^ (r - 64)) hb (pow_lt64 (by omega))
    have cp := fun W => place_hi r W h hr
    have e2 : putB b r = _ := if_neg h
    have e3 : putA a r = a := if_neg h
    rw [e3]
    rw [← e2] at e1
    generalize putB b r = q at *
    clear e2 e3
    generalize 2 ^ (r - 64) = p at *
    go_enter Tryd.func131, Tryd.ntmps131
    go_wp2_with fail
    refine (rank_yes r _ hr).mono ?_
    rintro e w1 ⟨rfl, rfl⟩
    go_wp2_with fail
    refine (cp _).mono ?_
    rintro e w1 ⟨rfl, rfl⟩
    go_wp2
    refine bodyPost_ret (v := .agg #[.int .u64 (a : Int), .int .u64 (q : Int)]) (by simp [results, Tryd.results131, go_sem]) rfl ⟨rfl, ?_⟩
    exact (((Below.refl _ _).alloc (Nat.le_refl _) _).alloc (by simp) _)
set_option maxRecDepth 100000 in
theorem mand_any (a b c d : Nat) (w : World) (ha : a < 18446744073709551616) (hb : b < 18446744073709551616) (hc : c < 18446744073709551616) (hd : d < 18446744073709551616) :
    Calls Tryd.prog 134 #[.agg #[.int .u64 (a : Int), .int .u64 (b : Int)], .agg #[.int .u64 (c : Int), .int .u64 (d : Int)]] w fun e w' => e = .returned (.agg #[.int .u64 ((a &&& c : Nat) : Int), .int .u64 ((b &&& d : Nat) : Int)]) ∧ Below w.heap.size w w' := by
  have e1 := u64_and_nat a c ha hc
  have e2 := u64_and_nat b d hb hd
  obtain ⟨x, hx⟩ : ∃ x, x = a &&& c := ⟨_, rfl⟩
  obtain ⟨y, hy⟩ : ∃ y, y = b &&& d := ⟨_, rfl⟩
  rw [← hx] at e1
  rw [← hy] at e2
  rw [← hx, ← hy]
  clear hx hy
  go_enter Tryd.func134, Tryd.ntmps134
  go_wp2
  refine bodyPost_ret (v := .agg #[.int .u64 (x : Int), .int .u64 (y : Int)]) (by simp [results, Tryd.results134, go_sem]) rfl ⟨rfl, ?_⟩
  exact ((((Below.refl _ _).alloc (Nat.le_refl _) _).alloc (by simp) _).alloc (by simp; omega) _)
set_option maxRecDepth 100000 in
theorem mor_any (a b c d : Nat) (w : World) (ha : a < 18446744073709551616) (hb : b < 18446744073709551616) (hc : c < 18446744073709551616) (hd : d < 18446744073709551616) :
    Calls Tryd.prog 135 #[.agg #[.int .u64 (a : Int), .int .u64 (b : Int)], .agg #[.int .u64 (c : Int), .int .u64 (d : Int)]] w fun e w' => e = .returned (.agg #[.int .u64 ((a ||| c : Nat) : Int), .int .u64 ((b ||| d : Nat) : Int)]) ∧ Below w.heap.size w w' := by
  have e1 := u64_or_nat a c ha hc
  have e2 := u64_or_nat b d hb hd
  obtain ⟨x, hx⟩ : ∃ x, x = a ||| c := ⟨_, rfl⟩
  obtain ⟨y, hy⟩ : ∃ y, y = b ||| d := ⟨_, rfl⟩
  rw [← hx] at e1
  rw [← hy] at e2
  rw [← hx, ← hy]
  clear hx hy
  go_enter Tryd.func135, Tryd.ntmps135
  go_wp2
  refine bodyPost_ret (v := .agg #[.int .u64 (x : Int), .int .u64 (y : Int)]) (by simp [results, Tryd.results135, go_sem]) rfl ⟨rfl, ?_⟩
  exact ((((Below.refl _ _).alloc (Nat.le_refl _) _).alloc (by simp) _).alloc (by simp; omega) _)
end Go.Proofs.YtjmkecaljkcoiaaDoor
