/-
  How arguments that came in are read: things, and rows of things. What is too much.
-/
import Derived.Test.YtgbfpolcefhemaaOpenF
import Derived.Test.YtgbfpolcefhemaaPr
import Derived.Test.YtgbfpolcefhemaaPidG
import Derived.Test.YtgbfpolcefhemaaPick
import Derived.Deep.Strs
import Derived.SizedLaws
namespace Go.Proofs.Ytgbfpolcefhemaa
open Go.ChangeShapes Go.WideShapes Go.RowKit
set_option linter.unusedVariables false
set_option linter.unusedSimpArgs false

/-- A thing. -/
structure Th where
  kind : Int
  n : Nat
  t : Bool
  r : Nat
  p : Pr
  A : Option Addr
  m : Nat
  c : Nat
  l : List UInt8
  B : Option Addr
  d : Nat
  e : Nat
  q : List Pr
  most : Int
def thC (x : Th) : List Value := [.int .i64 x.kind, .int .u64 (x.n : Int), .bool x.t, .int .u32 (x.r : Int), .int .u16 (x.p.i : Int), .int .u32 (x.p.k : Int), .slice x.A x.m x.c, .slice x.B x.d x.e, .int .i64 x.most]
theorem thOk : EncOk thC 9 := ⟨fun _ => rfl, fun p v hv => by simp [thC] at hv; rcases hv with rfl | rfl | rfl | rfl | rfl | rfl | rfl | rfl | rfl <;> rfl, by decide⟩
/-- What is known of a thing that came in: its bytes and processes lie below block B0. -/
structure ThIn (w : World) (B0 : Nat) (x : Th) : Prop where
  k0 : -9223372036854775808 ≤ x.kind
  k1 : x.kind ≤ 9223372036854775807
  hn : x.n < 18446744073709551616
  hr : x.r < 4294967296
  bs : Bs w B0 x.A x.m x.l
  mc : x.m ≤ x.c
  room : x.c ≤ maxLen
  es : Es prC w B0 x.B x.d x.q
  de : x.d ≤ x.e
  room2 : x.e ≤ maxLen
  o0 : -9223372036854775808 ≤ x.most
  o1 : x.most ≤ 9223372036854775807
theorem ThIn.below {w w' : World} {B0 : Nat} {x : Th} (h : ThIn w B0 x) (hb : Below B0 w w') : ThIn w' B0 x := ⟨h.k0, h.k1, h.hn, h.hr, h.bs.below hb, h.mc, h.room, h.es.below hb, h.de, h.room2, h.o0, h.o1⟩
/-- Things that came in. -/
def Things0 (w : World) (A : Option Addr) (n c : Nat) (l : List Th) : Prop := Es thC w w.heap.size A n l ∧ n ≤ c ∧ c ≤ maxLen ∧ ∀ a ∈ l, ThIn w w.heap.size a
theorem cells_thing : Try.prog.cellsOf 39 = 9 := by kernel_rfl
theorem cells_bool : Try.prog.cellsOf 4 = 1 := by kernel_rfl
theorem cells_pids : Try.prog.cellsOf 37 = 1 := by kernel_rfl
section
variable {H : Type} {enc : TypeId × Value → H} {w : World} {base : Nat} {spare : Nat → Bool} {held : Bool}
theorem trod_struct7 {P : Program} {t : TypeId} {f0 f1 f2 f3 f4 f5 f6 : Field} {fuel : Nat} {cs : List Value} {x : DataW H × List MemPlace} (ht : P.underlying t = some (.struct #[f0, f1, f2, f3, f4, f5, f6])) (h : DataW.trod enc P w base spare held fuel t cs = some x) :
    ∃ y0 y1 y2 y3 y4 y5 y6 n, cs.length = P.cellsOf t ∧ DataW.trod enc P w base spare held n f0.type ((cs.drop f0.offset).take (P.cellsOf f0.type)) = some y0 ∧
      DataW.trod enc P w base spare held n f1.type ((cs.drop f1.offset).take (P.cellsOf f1.type)) = some y1 ∧ DataW.trod enc P w base spare held n f2.type ((cs.drop f2.offset).take (P.cellsOf f2.type)) = some y2 ∧
      DataW.trod enc P w base spare held n f3.type ((cs.drop f3.offset).take (P.cellsOf f3.type)) = some y3 ∧ DataW.trod enc P w base spare held n f4.type ((cs.drop f4.offset).take (P.cellsOf f4.type)) = some y4 ∧
      DataW.trod enc P w base spare held n f5.type ((cs.drop f5.offset).take (P.cellsOf f5.type)) = some y5 ∧ DataW.trod enc P w base spare held n f6.type ((cs.drop f6.offset).take (P.cellsOf f6.type)) = some y6 := by
  obtain ⟨xs, n, _, rfl, hl, hlen, hf⟩ := DataW.trod_struct ht h
  match xs, hlen with
  | [y0, y1, y2, y3, y4, y5, y6], _ => exact ⟨y0, y1, y2, y3, y4, y5, y6, n, hl, by simpa using hf 0 f0 rfl, by simpa using hf 1 f1 rfl, by simpa using hf 2 f2 rfl, by simpa using hf 3 f3 rfl, by simpa using hf 4 f4 rfl, by simpa using hf 5 f5 rfl, by simpa using hf 6 f6 rfl⟩
set_option maxRecDepth 100000 in
theorem thing_cells {fuel : Nat} {cs : List Value} {x : DataW H × List MemPlace} (h : DataW.trod enc Try.prog w base (fun _ => true) held fuel 39 cs = some x) : ∃ y : Th, cs = thC y ∧ ThIn w w.heap.size y := by
  obtain ⟨y0, y1, y2, y3, y4, y5, y6, n, hl, h0, h1, h2, h3, h4, h5, h6⟩ := trod_struct7 Try.underlying39 h
  rw [cells_thing] at hl
  match cs, hl with
  | [a0, a1, a2, a3, a4, a5, a6, a7, a8], _ =>
    simp only [cells_int, cells_ballot, cells_u64, cells_bytes, cells_bool, cells_pids, List.drop_zero, List.drop_succ_cons, List.take_succ_cons, List.take_zero] at h0 h1 h2 h3 h4 h5 h6
    obtain ⟨k, e0, _, hw⟩ := DataW.trod_int Try.underlying3 h0
    have hk := wf_i64 hw
    obtain ⟨v, e1, hv⟩ := u64_cell h1
    obtain ⟨t, e2, _⟩ := DataW.trod_bool Try.underlying4 h2
    obtain ⟨r, i, c, e3, hr, hi, hc⟩ := ballot_cells h3
    obtain ⟨A, m, q, l, e4, hB, hnq, hq⟩ := bytes_cell h4
    obtain ⟨B, d, e, he⟩ : ∃ A m e, a7 = .slice A m e := by
      rcases open_pids h5 with e2 | ⟨ad, len, cap, e2, _⟩
      · simp only [List.cons.injEq, and_true] at e2; exact ⟨_, _, _, e2⟩
      · simp only [List.cons.injEq, and_true] at e2; exact ⟨_, _, _, e2⟩
    subst he
    obtain ⟨ps, h7, h8, h9⟩ := pids_row (open_pids h5) rfl
    obtain ⟨o, e6, _, hwo⟩ := DataW.trod_int Try.underlying3 h6
    have ho := wf_i64 hwo
    simp only [List.cons.injEq, and_true] at e0 e1 e2 e3 e6
    obtain ⟨rfl, rfl, rfl⟩ := e3
    subst e0 e1 e2 e4 e6
    exact ⟨⟨k, v, t, r, ⟨i, c, hi, hc⟩, A, m, q, l, B, d, e, ps, o⟩, rfl, ⟨hk.1, hk.2, hv, hr, hB, hnq, hq, h7, h8, h9, ho.1, ho.2⟩⟩
theorem bytes_u8 : Try.prog.bytesOf 5 = 1 := by kernel_rfl
set_option maxRecDepth 100000 in
/-- What the row says of an argument's weight, of the bytes in a thing. -/
theorem thing_room {fuel : Nat} {x : DataW H × List MemPlace} {y : Th} (h : DataW.trod enc Try.prog w base (fun _ => true) held fuel 39 (thC y) = some x) (hz : ∀ m ∈ x.1.weights Try.prog 39, m ≤ reachBytes) : y.c ≤ 140737488351232 := by
  obtain ⟨xs, n, _, rfl, hl, hlen, hf⟩ := DataW.trod_struct Try.underlying39 h
  match xs, hlen with
  | [y0, y1, y2, y3, y4, y5, y6], _ =>
    have h4 : DataW.trod enc Try.prog w base (fun _ => true) held n 26 (((thC y).drop 6).take (Try.prog.cellsOf 26)) = some y4 := hf 4 _ rfl
    simp only [cells_bytes, thC, List.drop_succ_cons, List.drop_zero, List.take_succ_cons, List.take_zero] at h4
    have hmem : ∀ m ∈ y4.1.weights Try.prog 26, m ≤ reachBytes := by
      intro m hm
      refine hz m ?_
      rw [DataW.weights, Try.underlying39]
      exact DataW.weights_mem_each (j := 4) (t := 26) (d := y4.1) rfl rfl m hm
    rcases open_ints Try.underlying26 Try.underlying5 (by kernel_rfl) h4 with ⟨hcs, _⟩ | ⟨a, len, cap, zs, hcs, _, hlc, hm, hzl, hx, _⟩
    · simp only [List.cons.injEq, and_true, Value.slice.injEq] at hcs
      omega
    · simp only [List.cons.injEq, and_true, Value.slice.injEq] at hcs
      have hw := hmem ((zs.take len).length * 1 + (zs.drop len).length * 1) (by
        rw [hx]
        simp only [DataW.weights, Try.underlying26, bytes_u8]
        refine List.mem_cons.2 (.inl ?_)
        simp [lits])
      simp only [if_true] at hzl
      rw [List.length_take, List.length_drop, hzl] at hw
      unfold reachBytes at hw
      omega
set_option maxRecDepth 100000 in
theorem open_thing {r : Reach} {b0 : Nat} {v : Value} {d : DataW H} {p : List MemPlace} (hv : Value.okWide Try.prog w r b0 39 v) (h : DataW.Trod enc Try.prog w base (fun _ => true) held 39 v d p) :
    ∃ x : Th, v = .agg #[.int .i64 x.kind, .int .u64 (x.n : Int), .bool x.t, .int .u32 (x.r : Int), .int .u16 (x.p.i : Int), .int .u32 (x.p.k : Int), .slice x.A x.m x.c, .slice x.B x.d x.e, .int .i64 x.most] ∧ ThIn w w.heap.size x := by
  obtain ⟨cs, rfl, _⟩ := okWide_struct Try.underlying39 hv
  obtain ⟨fuel, hf⟩ := h
  obtain ⟨y, e, hy⟩ := thing_cells hf
  refine ⟨y, ?_, hy⟩
  obtain ⟨l⟩ := cs
  simp [Value.cells, thC] at e
  rw [e]
theorem open_things {fuel : Nat} {cs : List Value} {x : DataW H × List MemPlace} (h : DataW.trod enc Try.prog w base (fun _ => true) held fuel 22 cs = some x) :
    cs = [.slice none 0 0] ∨ ∃ (a : Addr) (len cap : Nat), cs = [.slice (some a) len cap] ∧ len ≤ cap ∧ cap ≤ maxLen ∧
      ∀ i, i < len → ∃ y : Th, ThIn w w.heap.size y ∧ ∀ j v, (thC y)[j]? = some v → w.cell? (a.add (i * 9 + j)) = some v := by
  rcases Go.Deep.open_slice Try.underlying22 h with ⟨h0, _⟩ | ⟨a, len, cap, m, n, D, Pl, rfl, _, hl, hm, hmm, _, hi⟩
  · exact .inl h0
  · refine .inr ⟨a, len, cap, rfl, hl, hm, fun i hlt => ?_⟩
    obtain ⟨cs', hc, ht⟩ := hi i (by rw [hmm]; split <;> omega)
    rw [cells_thing] at hc
    obtain ⟨y, rfl, hy⟩ := thing_cells ht
    obtain ⟨_, _, hat⟩ := World.cells?_some hc
    refine ⟨y, hy, fun j v hv => ?_⟩
    have hj : j < 9 := (List.getElem?_eq_some_iff.1 hv).1
    have := hat j hj
    rw [add_of_add] at this
    exact this.trans hv
end
theorem things_row {w : World} {cs : List Value} {A : Option Addr} {n c : Nat} (h : cs = [.slice none 0 0] ∨ ∃ (a : Addr) (len cap : Nat), cs = [.slice (some a) len cap] ∧ len ≤ cap ∧ cap ≤ maxLen ∧
      ∀ i, i < len → ∃ y : Th, ThIn w w.heap.size y ∧ ∀ j v, (thC y)[j]? = some v → w.cell? (a.add (i * 9 + j)) = some v) (he : (Value.slice A n c).cells.toList = cs) : ∃ l, Things0 w A n c l := by
  simp [Value.cells] at he
  subst he
  rcases h with h | ⟨a, len, cap, h, hl, hm, hc⟩
  · simp only [List.cons.injEq, and_true, Value.slice.injEq] at h
    obtain ⟨rfl, rfl, rfl⟩ := h
    exact ⟨[], Es.none_, Nat.le_refl _, by decide, fun a ha => by simp at ha⟩
  · simp only [List.cons.injEq, and_true, Value.slice.injEq] at h
    obtain ⟨rfl, rfl, rfl⟩ := h
    obtain ⟨l, h1, h2, h3⟩ := rows_of thOk n hc
    refine ⟨l, ⟨h1, fun hn => ⟨a, rfl, ?_, h3⟩⟩, hl, hm, h2⟩
    obtain ⟨y, _, hy⟩ := hc 0 hn
    have := World.block_lt_of_cell? w _ (hy 0 _ rfl)
    rwa [block_of_add] at this
/-- A thing's nine cells, as the walk spells them. -/
theorem th_at {w : World} {ad : Addr} {j : Nat} {q : Th} (hc : ∀ i v, (thC q)[i]? = some v → w.cell? (ad.add (j * 9 + i)) = some v) :
    w.cell? (ad.add (j * 9)) = some (.int .i64 q.kind) ∧ w.cell? ⟨(ad.add (j * 9)).block, (ad.add (j * 9)).off + 1, none⟩ = some (.int .u64 (q.n : Int)) ∧
    w.cell? ⟨(ad.add (j * 9)).block, (ad.add (j * 9)).off + 2, none⟩ = some (.bool q.t) ∧ w.cell? ⟨(ad.add (j * 9)).block, (ad.add (j * 9)).off + 3, none⟩ = some (.int .u32 (q.r : Int)) ∧
    w.cell? ⟨(ad.add (j * 9)).block, (ad.add (j * 9)).off + 4, none⟩ = some (.int .u16 (q.p.i : Int)) ∧ w.cell? ⟨(ad.add (j * 9)).block, (ad.add (j * 9)).off + 5, none⟩ = some (.int .u32 (q.p.k : Int)) ∧
    w.cell? ⟨(ad.add (j * 9)).block, (ad.add (j * 9)).off + 6, none⟩ = some (.slice q.A q.m q.c) ∧ w.cell? ⟨(ad.add (j * 9)).block, (ad.add (j * 9)).off + 7, none⟩ = some (.slice q.B q.d q.e) ∧
    w.cell? ⟨(ad.add (j * 9)).block, (ad.add (j * 9)).off + 8, none⟩ = some (.int .i64 q.most) := by
  have key : ∀ i v, (thC q)[i + 1]? = some v → w.cell? ⟨(ad.add (j * 9)).block, (ad.add (j * 9)).off + (i + 1), none⟩ = some v := by
    intro i v hv
    have h := hc (i + 1) v hv
    rw [← add_of_add] at h
    exact h
  exact ⟨hc 0 _ rfl, key 0 _ rfl, key 1 _ rfl, key 2 _ rfl, key 3 _ rfl, key 4 _ rfl, key 5 _ rfl, key 6 _ rfl, key 7 _ rfl⟩
/-- The forms of processes. -/
def pidsL (l : List Pr) : List UInt8 := l.flatMap fun p => pidL p.i p.k
theorem pidsL_snoc (l : List Pr) (p : Pr) : pidsL (l ++ [p]) = pidsL l ++ pidL p.i p.k := by simp [pidsL]
theorem pidsL_cons (l : List Pr) (p : Pr) : pidsL (p :: l) = pidL p.i p.k ++ pidsL l := by simp [pidsL]
theorem pidsL_take {l : List Pr} {j : Nat} (h : j < l.length) : pidsL (l.take (j + 1)) = pidsL (l.take j) ++ pidL l[j].i l[j].k := by
  rw [List.take_succ_eq_append_getElem h, pidsL_snoc]
theorem pidsL_len (l : List Pr) : (pidsL l).length ≤ 20 * l.length := by
  induction l with
  | nil => simp [pidsL]
  | cons p l ih => rw [pidsL_cons, List.length_append, List.length_cons]; have := pidL_len p.i p.k; omega
/-! ### great -/
/-- Are the first j things small? -/
def Small (l : List Th) (j : Nat) : Prop := ∀ a ∈ l.take j, a.m ≤ 300 ∧ a.d ≤ 60
theorem Small.step {l : List Th} {j : Nat} (h : Small l j) (hj : j < l.length) (ha : l[j].m ≤ 300 ∧ l[j].d ≤ 60) : Small l (j + 1) := by
  unfold Small at *
  rw [List.take_succ_eq_append_getElem hj]
  intro a h'
  rw [List.mem_append, List.mem_singleton] at h'
  exact h'.elim (h a) (fun e => e ▸ ha)
/-- What great answers: if not, all that is looked at is small. -/
def GreatP (w : World) (l : List Th) (e : Ending) (w' : World) : Prop := ∃ b : Bool, e = .returned (.bool b) ∧ (b = false → Small l 60) ∧ w = w'
set_option maxRecDepth 100000 in
theorem great7_any (A : Option Addr) (n c : Nat) (l : List Th) (w : World) (h : Things0 w A n c l) :
    Calls Try.prog 6 #[.slice A n c] w (GreatP w l) := by
  obtain ⟨hA, hnc, hcm, hin⟩ := h
  unfold maxLen at hcm
  have hlen := hA.len
  have HL := hide hlen
  have HI := hide hin
  clear hlen hin
  have h0 : Small l 0 := fun a ha => by simp at ha
  go_enter Try.func6, Try.ntmps6
  go_wp2
  go_loopw [3] (fun i wr => ∃ j : Nat, j ≤ n ∧ j ≤ 60 ∧ i = .int .i64 j ∧ Small l j ∧ w = wr) (fun i _ => n - (intOf i).toNat)
  case atStart => exact ⟨0, Nat.zero_le _, by decide, rfl, h0, rfl⟩
  case round =>
    obtain ⟨j, hj, hj2, rfl, hs, rfl⟩ := hrel
    by_cases hlt : j < n
    · have z2 : (j : Int) < (n : Int) := by omega
      by_cases hlt2 : j < 60
      · obtain ⟨ad, hl, rfl, hbl, hc⟩ := hA.at_ thOk hlt
        have hst := hs.step hl
        obtain ⟨y, hy⟩ : ∃ y, y = l[j] := ⟨_, rfl⟩
        rw [← hy] at hc hst
        obtain ⟨c0, c1, c2, c3, c4, c5, c6, c7, c8⟩ := th_at hc
        have hmc : y.m ≤ 9223372036854775807 ∧ y.d ≤ 9223372036854775807 := by
          have := HI.out y (by rw [hy]; exact List.getElem_mem hl)
          have q1 := this.mc
          have q2 := this.room
          have q3 := this.de
          have q4 := this.room2
          unfold maxLen at q2 q4
          omega
        obtain ⟨hm1, hm2⟩ := hmc
        clear hy hc
        have z3 : (j : Int) < 60 := by omega
        by_cases hm : y.m ≤ 300
        · by_cases hd : y.d ≤ 60
          · have hst := hst ⟨hm, hd⟩
            go_wp2
            go_roundw
            case rel => exact ⟨j + 1, by omega, by omega, by go_num, hst, trivial⟩
            case measure => simp [intOf]; omega
          · clear hst
            go_wp2
            go_ret
            exact ⟨true, rfl, fun h => (by cases h), rfl⟩
        · clear hst
          go_wp2
          go_ret
          exact ⟨true, rfl, fun h => (by cases h), rfl⟩
      · obtain rfl : j = 60 := by omega
        have HD := hide hs
        clear hs
        go_wp2
        go_ret
        exact ⟨false, rfl, fun _ => HD.out, rfl⟩
    · have hd : Small l 60 := fun a ha => hs a (by
        have e : l.take j = l := List.take_of_length_le (by rw [HL.out]; omega)
        rw [e]
        exact List.mem_of_mem_take ha)
      have HD := hide hd
      clear hd hs
      go_wp2
      go_ret
      exact ⟨false, rfl, fun _ => HD.out, rfl⟩
end Go.Proofs.Ytgbfpolcefhemaa
