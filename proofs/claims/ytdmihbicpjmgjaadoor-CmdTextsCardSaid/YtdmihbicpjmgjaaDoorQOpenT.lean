/-
  The document's Pick: a place below n, picked by any number.
-/
import Derived.Test.YtdmihbicpjmgjaaDoorQOpenF
import Derived.Deep.Strs
import Derived.SizedLaws
import Derived.Test.YtdmihbicpjmgjaaDoorQPr
import Derived.Test.YtdmihbicpjmgjaaDoorQPidG
namespace Go.Proofs.YtdmihbicpjmgjaaDoor
open Go.RowKit
set_option linter.unusedVariables false
set_option linter.unusedSimpArgs false

/-- A place below n, picked by any number. -/
def pickF (a n : Int) : Int := if n < 1 then 0 else a % n
theorem pickF_bd {a n : Int} (h : 1 ≤ n) : 0 ≤ pickF a n ∧ pickF a n < n := by
  unfold pickF
  rw [if_neg (by omega)]
  exact ⟨Int.emod_nonneg _ (by omega), Int.emod_lt_of_pos _ (by omega)⟩
theorem tmod_emod (a n : Int) : a.tmod n % n = a % n := by
  have h := Int.mul_tdiv_add_tmod a n
  conv => rhs; rw [← h]
  rw [Int.add_comm, Int.add_mul_emod_self_left]
theorem pickF_hi {a n : Int} (h : 1 ≤ n) : 0 ≤ a.tmod n → pickF a n = a.tmod n := by
  intro h0
  unfold pickF
  rw [if_neg (by omega), ← tmod_emod]
  exact Int.emod_eq_of_lt h0 (Int.tmod_lt_of_pos a (by omega))
theorem pickF_lo {a n : Int} (h : 1 ≤ n) : a.tmod n < 0 → pickF a n = a.tmod n + n := by
  intro h0
  unfold pickF
  rw [if_neg (by omega), ← tmod_emod, ← Int.add_emod_right]
  have := Int.lt_tmod_of_pos a (show 0 < n by omega)
  exact Int.emod_eq_of_lt (by omega) (by omega)
end Go.Proofs.YtdmihbicpjmgjaaDoor
namespace Go.Proofs.YtdmihbicpjmgjaaDoor
open Go.ChangeShapes Go.WideShapes Go.RowKit
set_option linter.unusedVariables false
set_option linter.unusedSimpArgs false

/-- A thing. -/
structure Th where
  kind : Int
  n : Nat
  t : Bool
  r : Nat
  p : Pr
  A : Option Addr
  m : Nat
  c : Nat
  l : List UInt8
  B : Option Addr
  d : Nat
  e : Nat
  q : List Pr
  most : Int
def thC (x : Th) : List Value := [.int .i64 x.kind, .int .u64 (x.n : Int), .bool x.t, .int .u32 (x.r : Int), .int .u16 (x.p.i : Int), .int .u32 (x.p.k : Int), .slice x.A x.m x.c, .slice x.B x.d x.e, .int .i64 x.most]
theorem thOk : EncOk thC 9 := ⟨fun _ => rfl, fun p v hv => by simp [thC] at hv; rcases hv with rfl | rfl | rfl | rfl | rfl | rfl | rfl | rfl | rfl <;> rfl, by decide⟩
/-- What is known of a thing that came in: its bytes and processes lie below block B0. -/
structure ThIn (w : World) (B0 : Nat) (x : Th) : Prop where
  k0 : -9223372036854775808 ≤ x.kind
  k1 : x.kind ≤ 9223372036854775807
  hn : x.n < 18446744073709551616
  hr : x.r < 4294967296
  bs : Bs w B0 x.A x.m x.l
  mc : x.m ≤ x.c
  room : x.c ≤ maxLen
  es : Es prC w B0 x.B x.d x.q
  de : x.d ≤ x.e
  room2 : x.e ≤ maxLen
  o0 : -9223372036854775808 ≤ x.most
  o1 : x.most ≤ 9223372036854775807
theorem ThIn.below {w w' : World} {B0 : Nat} {x : Th} (h : ThIn w B0 x) (hb : Below B0 w w') : ThIn w' B0 x := ⟨h.k0, h.k1, h.hn, h.hr, h.bs.below hb, h.mc, h.room, h.es.below hb, h.de, h.room2, h.o0, h.o1⟩
/-- Things that came in. -/
def Things0 (w : World) (A : Option Addr) (n c : Nat) (l : List Th) : Prop := Es thC w w.heap.size A n l ∧ n ≤ c ∧ c ≤ maxLen ∧ ∀ a ∈ l, ThIn w w.heap.size a
theorem cells_bool : Tryd.prog.cellsOf 4 = 1 := by kernel_rfl
theorem cells_pids : Tryd.prog.cellsOf 28 = 1 := by kernel_rfl
section
variable {H : Type} {enc : TypeId × Value → H} {w : World} {base : Nat} {spare : Nat → Bool} {held : Bool}
theorem trod_struct7 {P : Program} {t : TypeId} {f0 f1 f2 f3 f4 f5 f6 : Field} {fuel : Nat} {cs : List Value} {x : DataW H × List MemPlace} (ht : P.underlying t = some (.struct #[f0, f1, f2, f3, f4, f5, f6])) (h : DataW.trod enc P w base spare held fuel t cs = some x) :
    ∃ y0 y1 y2 y3 y4 y5 y6 n, cs.length = P.cellsOf t ∧ DataW.trod enc P w base spare held n f0.type ((cs.drop f0.offset).take (P.cellsOf f0.type)) = some y0 ∧
      DataW.trod enc P w base spare held n f1.type ((cs.drop f1.offset).take (P.cellsOf f1.type)) = some y1 ∧ DataW.trod enc P w base spare held n f2.type ((cs.drop f2.offset).take (P.cellsOf f2.type)) = some y2 ∧
      DataW.trod enc P w base spare held n f3.type ((cs.drop f3.offset).take (P.cellsOf f3.type)) = some y3 ∧ DataW.trod enc P w base spare held n f4.type ((cs.drop f4.offset).take (P.cellsOf f4.type)) = some y4 ∧
      DataW.trod enc P w base spare held n f5.type ((cs.drop f5.offset).take (P.cellsOf f5.type)) = some y5 ∧ DataW.trod enc P w base spare held n f6.type ((cs.drop f6.offset).take (P.cellsOf f6.type)) = some y6 := by
  obtain ⟨xs, n, _, rfl, hl, hlen, hf⟩ := DataW.trod_struct ht h
  match xs, hlen with
  | [y0, y1, y2, y3, y4, y5, y6], _ => exact ⟨y0, y1, y2, y3, y4, y5, y6, n, hl, by simpa using hf 0 f0 rfl, by simpa using hf 1 f1 rfl, by simpa using hf 2 f2 rfl, by simpa using hf 3 f3 rfl, by simpa using hf 4 f4 rfl, by simpa using hf 5 f5 rfl, by simpa using hf 6 f6 rfl⟩
theorem bytes_u8 : Tryd.prog.bytesOf 5 = 1 := by kernel_rfl
end
theorem things_row {w : World} {cs : List Value} {A : Option Addr} {n c : Nat} (h : cs = [.slice none 0 0] ∨ ∃ (a : Addr) (len cap : Nat), cs = [.slice (some a) len cap] ∧ len ≤ cap ∧ cap ≤ maxLen ∧
      ∀ i, i < len → ∃ y : Th, ThIn w w.heap.size y ∧ ∀ j v, (thC y)[j]? = some v → w.cell? (a.add (i * 9 + j)) = some v) (he : (Value.slice A n c).cells.toList = cs) : ∃ l, Things0 w A n c l := by
  simp [Value.cells] at he
  subst he
  rcases h with h | ⟨a, len, cap, h, hl, hm, hc⟩
  · simp only [List.cons.injEq, and_true, Value.slice.injEq] at h
    obtain ⟨rfl, rfl, rfl⟩ := h
    exact ⟨[], Es.none_, Nat.le_refl _, by decide, fun a ha => by simp at ha⟩
  · simp only [List.cons.injEq, and_true, Value.slice.injEq] at h
    obtain ⟨rfl, rfl, rfl⟩ := h
    obtain ⟨l, h1, h2, h3⟩ := rows_of thOk n hc
    refine ⟨l, ⟨h1, fun hn => ⟨a, rfl, ?_, h3⟩⟩, hl, hm, h2⟩
    obtain ⟨y, _, hy⟩ := hc 0 hn
    have := World.block_lt_of_cell? w _ (hy 0 _ rfl)
    rwa [block_of_add] at this
/-- A thing's nine cells, as the walk spells them. -/
theorem th_at {w : World} {ad : Addr} {j : Nat} {q : Th} (hc : ∀ i v, (thC q)[i]? = some v → w.cell? (ad.add (j * 9 + i)) = some v) :
    w.cell? (ad.add (j * 9)) = some (.int .i64 q.kind) ∧ w.cell? ⟨(ad.add (j * 9)).block, (ad.add (j * 9)).off + 1, none⟩ = some (.int .u64 (q.n : Int)) ∧
    w.cell? ⟨(ad.add (j * 9)).block, (ad.add (j * 9)).off + 2, none⟩ = some (.bool q.t) ∧ w.cell? ⟨(ad.add (j * 9)).block, (ad.add (j * 9)).off + 3, none⟩ = some (.int .u32 (q.r : Int)) ∧
    w.cell? ⟨(ad.add (j * 9)).block, (ad.add (j * 9)).off + 4, none⟩ = some (.int .u16 (q.p.i : Int)) ∧ w.cell? ⟨(ad.add (j * 9)).block, (ad.add (j * 9)).off + 5, none⟩ = some (.int .u32 (q.p.k : Int)) ∧
    w.cell? ⟨(ad.add (j * 9)).block, (ad.add (j * 9)).off + 6, none⟩ = some (.slice q.A q.m q.c) ∧ w.cell? ⟨(ad.add (j * 9)).block, (ad.add (j * 9)).off + 7, none⟩ = some (.slice q.B q.d q.e) ∧
    w.cell? ⟨(ad.add (j * 9)).block, (ad.add (j * 9)).off + 8, none⟩ = some (.int .i64 q.most) := by
  have key : ∀ i v, (thC q)[i + 1]? = some v → w.cell? ⟨(ad.add (j * 9)).block, (ad.add (j * 9)).off + (i + 1), none⟩ = some v := by
    intro i v hv
    have h := hc (i + 1) v hv
    rw [← add_of_add] at h
    exact h
  exact ⟨hc 0 _ rfl, key 0 _ rfl, key 1 _ rfl, key 2 _ rfl, key 3 _ rfl, key 4 _ rfl, key 5 _ rfl, key 6 _ rfl, key 7 _ rfl⟩
/-- The forms of processes. -/
def pidsL (l : List Pr) : List UInt8 := l.flatMap fun p => pidL p.i p.k
theorem pidsL_snoc (l : List Pr) (p : Pr) : pidsL (l ++ [p]) = pidsL l ++ pidL p.i p.k := by simp [pidsL]
theorem pidsL_cons (l : List Pr) (p : Pr) : pidsL (p :: l) = pidL p.i p.k ++ pidsL l := by simp [pidsL]
theorem pidsL_take {l : List Pr} {j : Nat} (h : j < l.length) : pidsL (l.take (j + 1)) = pidsL (l.take j) ++ pidL l[j].i l[j].k := by
  rw [List.take_succ_eq_append_getElem h, pidsL_snoc]
theorem pidsL_len (l : List Pr) : (pidsL l).length ≤ 20 * l.length := by
  induction l with
  | nil => simp [pidsL]
  | cons p l ih => rw [pidsL_cons, List.length_append, List.length_cons]; have := pidL_len p.i p.k; omega
/-! ### great -/
/-- Are the first j things small? -/
def Small (l : List Th) (j : Nat) : Prop := ∀ a ∈ l.take j, a.m ≤ 300 ∧ a.d ≤ 60
theorem Small.step {l : List Th} {j : Nat} (h : Small l j) (hj : j < l.length) (ha : l[j].m ≤ 300 ∧ l[j].d ≤ 60) : Small l (j + 1) := by
  unfold Small at *
  rw [List.take_succ_eq_append_getElem hj]
  intro a h'
  rw [List.mem_append, List.mem_singleton] at h'
  exact h'.elim (h a) (fun e => e ▸ ha)
/-- What great answers: if not, all that is looked at is small. -/
def GreatP (w : World) (l : List Th) (e : Ending) (w' : World) : Prop := ∃ b : Bool, e = .returned (.bool b) ∧ (b = false → Small l 60) ∧ w = w'
end Go.Proofs.YtdmihbicpjmgjaaDoor
