import Derived.Deep.Strs
import Derived.Test.YtjmkecaljkcoiaaGreatDoorQOpenF
import Derived.Test.YtjmkecaljkcoiaaGreatDoorQSortM
import Derived.Test.YtjmkecaljkcoiaaGreatDoorQViewM
namespace Go.Proofs.YtjmkecaljkcoiaaGreatDoor
open Go.ChangeShapes Go.WideShapes Go.RowKit
set_option linter.unusedVariables false
set_option linter.unusedSimpArgs false
structure Lf where
  A : Option Addr
  m : Nat
  c : Nat
  l : List Pr
def lfC (x : Lf) : List Value := [.slice x.A x.m x.c]
theorem lfOk : EncOk lfC 1 := ⟨fun _ => rfl, fun p v hv => by simp [lfC] at hv; rcases hv with rfl; rfl, by decide⟩
structure LfIn (w : World) (B0 : Nat) (x : Lf) : Prop where
  es : Es prC w B0 x.A x.m x.l
  mc : x.m ≤ x.c
  room : x.c ≤ maxLen
theorem LfIn.below {w w' : World} {B0 : Nat} {x : Lf} (h : LfIn w B0 x) (hb : Below B0 w w') : LfIn w' B0 x := ⟨h.es.below hb, h.mc, h.room⟩
theorem LfIn.more {w : World} {B0 B1 : Nat} {x : Lf} (h : LfIn w B0 x) (hb : B0 ≤ B1) : LfIn w B1 x := ⟨h.es.more hb, h.mc, h.room⟩
structure Vw where
  id : Nat
  A : Option Addr
  m : Nat
  c : Nat
  l : List Pr
  B : Option Addr
  d : Nat
  e : Nat
  q : List Lf
  C : Option Addr
  f : Nat
  g : Nat
  r : List Pr
def Vw.v (x : Vw) : Vi := ⟨x.id, x.l, x.q.map Lf.l, x.r⟩
def vwC (x : Vw) : List Value := [.int .u64 x.id, .slice x.A x.m x.c, .slice x.B x.d x.e, .slice x.C x.f x.g]
structure VwIn (w : World) (B0 : Nat) (x : Vw) : Prop where
  hid : x.id < 18446744073709551616
  es : Es prC w B0 x.A x.m x.l
  mc : x.m ≤ x.c
  room : x.c ≤ maxLen
  lv : Es lfC w B0 x.B x.d x.q
  de : x.d ≤ x.e
  room2 : x.e ≤ maxLen
  each : ∀ y ∈ x.q, LfIn w B0 y
  dr : Es prC w B0 x.C x.f x.r
  fg : x.f ≤ x.g
  room3 : x.g ≤ maxLen
theorem VwIn.below {w w' : World} {B0 : Nat} {x : Vw} (h : VwIn w B0 x) (hb : Below B0 w w') : VwIn w' B0 x := ⟨h.hid, h.es.below hb, h.mc, h.room, h.lv.below hb, h.de, h.room2, fun y hy => (h.each y hy).below hb, h.dr.below hb, h.fg, h.room3⟩
theorem VwIn.more {w : World} {B0 B1 : Nat} {x : Vw} (h : VwIn w B0 x) (hb : B0 ≤ B1) : VwIn w B1 x := ⟨h.hid, h.es.more hb, h.mc, h.room, h.lv.more hb, h.de, h.room2, fun y hy => (h.each y hy).more hb, h.dr.more hb, h.fg, h.room3⟩
theorem VwIn.alloc {w : World} {B0 : Nat} {x : Vw} (h : VwIn w B0 x) (hB : B0 ≤ w.heap.size) (o : Obj) : VwIn (w.alloc o) B0 x := h.below ((Below.refl _ _).alloc hB o)
def Views0 (w : World) (A : Option Addr) (n c : Nat) (l : List Vw) : Prop := Es vwC w w.heap.size A n l ∧ n ≤ c ∧ c ≤ maxLen ∧ ∀ a ∈ l, VwIn w w.heap.size a
theorem cells_view : Tryz.prog.cellsOf 26 = 4 := by kernel_rfl
theorem cells_pidsV : Tryz.prog.cellsOf 23 = 1 := by kernel_rfl
theorem cells_leaves : Tryz.prog.cellsOf 24 = 1 := by kernel_rfl
section
variable {H : Type} {enc : TypeId × Value → H} {w : World} {base : Nat} {spare : Nat → Bool} {held : Bool}
theorem trod_struct4 {P : Program} {t : TypeId} {f0 f1 f2 f3 : Field} {fuel : Nat} {cs : List Value} {x : DataW H × List MemPlace} (ht : P.underlying t = some (.struct #[f0, f1, f2, f3])) (h : DataW.trod enc P w base spare held fuel t cs = some x) :
    ∃ y0 y1 y2 y3 n, cs.length = P.cellsOf t ∧ DataW.trod enc P w base spare held n f0.type ((cs.drop f0.offset).take (P.cellsOf f0.type)) = some y0 ∧
      DataW.trod enc P w base spare held n f1.type ((cs.drop f1.offset).take (P.cellsOf f1.type)) = some y1 ∧ DataW.trod enc P w base spare held n f2.type ((cs.drop f2.offset).take (P.cellsOf f2.type)) = some y2 ∧
      DataW.trod enc P w base spare held n f3.type ((cs.drop f3.offset).take (P.cellsOf f3.type)) = some y3 := by
  obtain ⟨xs, n, _, rfl, hl, hlen, hf⟩ := DataW.trod_struct ht h
  match xs, hlen with
  | [y0, y1, y2, y3], _ => exact ⟨y0, y1, y2, y3, n, hl, by simpa using hf 0 f0 rfl, by simpa using hf 1 f1 rfl, by simpa using hf 2 f2 rfl, by simpa using hf 3 f3 rfl⟩
theorem pids_cell {fuel : Nat} {v : Value} {x : DataW H × List MemPlace} (h : DataW.trod enc Tryz.prog w base spare held fuel 23 [v] = some x) : ∃ y : Lf, v = .slice y.A y.m y.c ∧ LfIn w w.heap.size y := by
  obtain ⟨A, m, e, he⟩ : ∃ A m e, v = .slice A m e := by
    rcases open_pids h with e2 | ⟨ad, len, cap, e2, _⟩
    · simp only [List.cons.injEq, and_true] at e2; exact ⟨_, _, _, e2⟩
    · simp only [List.cons.injEq, and_true] at e2; exact ⟨_, _, _, e2⟩
  subst he
  obtain ⟨ps, h7, h8, h9⟩ := pids_row (open_pids h) rfl
  exact ⟨⟨A, m, e, ps⟩, rfl, h7, h8, h9⟩
theorem open_leaves {fuel : Nat} {v : Value} {x : DataW H × List MemPlace} (h : DataW.trod enc Tryz.prog w base spare held fuel 24 [v] = some x) :
    ∃ A n c l, v = .slice A n c ∧ Es lfC w w.heap.size A n l ∧ n ≤ c ∧ c ≤ maxLen ∧ ∀ y ∈ l, LfIn w w.heap.size y := by
  rcases Go.Deep.open_slice Tryz.underlying24 h with ⟨h0, _⟩ | ⟨a, len, cap, m, n, D, Pl, h0, _, hl, hm, hmm, _, hi⟩
  · simp only [List.cons.injEq, and_true] at h0
    exact ⟨none, 0, 0, [], h0, Es.none_, Nat.le_refl _, by decide, fun a ha => by simp at ha⟩
  · simp only [List.cons.injEq, and_true] at h0
    have hall : ∀ i, i < len → ∃ y : Lf, LfIn w w.heap.size y ∧ ∀ j v, (lfC y)[j]? = some v → w.cell? (a.add (i * 1 + j)) = some v := by
      intro i hlt
      obtain ⟨cs', hc, ht⟩ := hi i (by rw [hmm]; split <;> omega)
      rw [cells_pidsV] at hc
      obtain ⟨hlen, _, hat⟩ := World.cells?_some hc
      match cs', hlen with
      | [u], _ =>
        obtain ⟨y, hy, hin⟩ := pids_cell ht
        refine ⟨y, hin, fun j v hv => ?_⟩
        have hj : j < 1 := (List.getElem?_eq_some_iff.1 hv).1
        have := hat j hj
        rw [add_of_add] at this
        obtain rfl : j = 0 := by omega
        refine this.trans ?_
        rw [← hv]
        simp [lfC, hy]
    obtain ⟨l, h1, h2, h3⟩ := rows_of lfOk len hall
    refine ⟨some a, len, cap, l, h0, ⟨h1, fun hn => ⟨a, rfl, ?_, h3⟩⟩, hl, hm, h2⟩
    obtain ⟨y, _, hy⟩ := hall 0 hn
    have := World.block_lt_of_cell? w _ (hy 0 _ rfl)
    rwa [block_of_add] at this
set_option maxRecDepth 100000 in
theorem view_cells {fuel : Nat} {cs : List Value} {x : DataW H × List MemPlace} (h : DataW.trod enc Tryz.prog w base spare held fuel 26 cs = some x) : ∃ y : Vw, cs = vwC y ∧ VwIn w w.heap.size y := by
  obtain ⟨y0, y1, y2, y3, n, hl, h0, h1, h2, h3⟩ := trod_struct4 Tryz.underlying26 h
  rw [cells_view] at hl
  match cs, hl with
  | [a0, a1, a2, a3], _ =>
    simp only [cells_u64, cells_pidsV, cells_leaves, List.drop_zero, List.drop_succ_cons, List.take_succ_cons, List.take_zero] at h0 h1 h2 h3
    obtain ⟨i, e0, hi⟩ := u64_cell h0
    obtain ⟨y, e1, hy⟩ := pids_cell h1
    obtain ⟨B, d, e, q, e2, g1, g2, g3, g4⟩ := open_leaves h2
    obtain ⟨z, e3, hz⟩ := pids_cell h3
    simp only [List.cons.injEq, and_true] at e0
    subst e0 e1 e2 e3
    exact ⟨⟨i, y.A, y.m, y.c, y.l, B, d, e, q, z.A, z.m, z.c, z.l⟩, rfl, ⟨hi, hy.es, hy.mc, hy.room, g1, g2, g3, g4, hz.es, hz.mc, hz.room⟩⟩
end
theorem lf_at {w : World} {ad : Addr} {j : Nat} {q : Lf} (hc : ∀ i v, (lfC q)[i]? = some v → w.cell? (ad.add (j * 1 + i)) = some v) : w.cell? (ad.add j) = some (.slice q.A q.m q.c) := by
  have h := hc 0 _ rfl
  rwa [show j * 1 + 0 = j from by omega] at h
def VAt (w : World) (b : Nat) (x : Vw) : Prop := w.heap[b]? = some (.cells #[.int .u64 x.id, .slice x.A x.m x.c, .slice x.B x.d x.e, .slice x.C x.f x.g] 26)
structure VSmall (x : Vw) : Prop where
  m : x.m ≤ 40
  d : x.d ≤ 40
  f : x.f ≤ 40
  each : ∀ y ∈ x.q, y.m ≤ 40
def LSmall (l : List Lf) (j : Nat) : Prop := ∀ a ∈ l.take j, a.m ≤ 40
theorem LSmall.step {l : List Lf} {j : Nat} (h : LSmall l j) (hj : j < l.length) (ha : l[j].m ≤ 40) : LSmall l (j + 1) := by
  unfold LSmall at *
  rw [List.take_succ_eq_append_getElem hj]
  intro a h'
  rw [List.mem_append, List.mem_singleton] at h'
  exact h'.elim (h a) (fun e => e ▸ ha)
theorem LSmall.done {l : List Lf} {j : Nat} (h : LSmall l j) (hj : l.length ≤ j) : ∀ a ∈ l, a.m ≤ 40 := by
  unfold LSmall at h
  rwa [List.take_of_length_le hj] at h
def Great8P (w : World) (x : Vw) (e : Ending) (w' : World) : Prop := ∃ b : Bool, e = .returned (.bool b) ∧ (b = false → VSmall x) ∧ Below w.heap.size w w'
set_option maxRecDepth 100000 in
theorem great8_any (x : Vw) (B : Nat) (w : World) (h : VwIn w B x) (hB : B ≤ w.heap.size) :
    Calls Tryz.prog 6 #[.agg #[.int .u64 x.id, .slice x.A x.m x.c, .slice x.B x.d x.e, .slice x.C x.f x.g]] w (Great8P w x) := by
  have hb0 : Below w.heap.size w (w.alloc (.cells #[.int .u64 x.id, .slice x.A x.m x.c, .slice x.B x.d x.e, .slice x.C x.f x.g] 26)) := (Below.refl _ _).alloc (Nat.le_refl _) _
  have hl := (h.alloc hB (.cells #[.int .u64 x.id, .slice x.A x.m x.c, .slice x.B x.d x.e, .slice x.C x.f x.g] 26)).lv
  have hq := h.lv.len
  have hm := h.mc
  have hd := h.de
  have hf := h.fg
  have r1 := h.room
  have r2 := h.room2
  have r3 := h.room3
  have hin : ∀ y ∈ x.q, y.m ≤ 9223372036854775807 := fun y hy => by
    have g1 := (h.each y hy).mc
    have g2 := (h.each y hy).room
    unfold maxLen at g2
    omega
  unfold maxLen at r1 r2 r3
  have HI := hide hin
  have HQ := hide hq
  have h0 : LSmall x.q 0 := fun a ha => by simp at ha
  clear h hin hq
  obtain ⟨id, A, m, c, l, B', d, e, q, C, f, g, r⟩ := x
  dsimp only at *
  by_cases hm4 : m ≤ 40
  · by_cases hd4 : d ≤ 40
    · by_cases hf4 : f ≤ 40
      · have z1 : decide ((40 : Int) < (m : Int)) = false := decide_eq_false (by omega)
        have z2 : decide ((40 : Int) < (d : Int)) = false := decide_eq_false (by omega)
        have z3 : decide ((40 : Int) < (f : Int)) = false := decide_eq_false (by omega)
        go_enter Tryz.func6, Tryz.ntmps6
        go_wp2
        go_loopw [3] (fun i wr => ∃ j : Nat, j ≤ d ∧ i = .int .i64 j ∧ LSmall q j ∧ w.alloc (.cells #[.int .u64 id, .slice A m c, .slice B' d e, .slice C f g] 26) = wr) (fun i _ => d - (intOf i).toNat)
        case atStart => exact ⟨0, Nat.zero_le _, rfl, h0, rfl⟩
        case round =>
          obtain ⟨j, hj, rfl, hs, rfl⟩ := hrel
          by_cases hlt : j < d
          · have z4 : (j : Int) < (d : Int) := by omega
            obtain ⟨ad, hlj, rfl, hbl, hc⟩ := hl.at_ lfOk hlt
            have hst := hs.step hlj
            have hym := HI.out q[j] (List.getElem_mem hlj)
            obtain ⟨y, hy⟩ : ∃ y, y = q[j] := ⟨_, rfl⟩
            rw [← hy] at hc hst hym
            have c0 := lf_at hc
            clear hy hc
            by_cases h4 : y.m ≤ 40
            · have hst := hst h4
              go_wp2
              go_roundw
              case rel => exact ⟨j + 1, by omega, by go_num, hst, trivial⟩
              case measure => simp [intOf]; omega
            · clear hst
              go_wp2
              go_ret
              exact ⟨true, rfl, fun h => (by cases h), hb0⟩
          · have hd := hs.done (by rw [HQ.out]; omega)
            have HD := hide hd
            clear hd hs
            go_wp2
            go_ret
            exact ⟨false, rfl, fun _ => ⟨hm4, hd4, hf4, HD.out⟩, hb0⟩
      · have z1 : decide ((40 : Int) < (m : Int)) = false := decide_eq_false (by omega)
        have z2 : decide ((40 : Int) < (d : Int)) = false := decide_eq_false (by omega)
        have z3 : decide ((40 : Int) < (f : Int)) = true := decide_eq_true (by omega)
        go_enter Tryz.func6, Tryz.ntmps6
        go_wp2
        go_ret
        exact ⟨true, rfl, fun h => (by cases h), hb0⟩
    · have z1 : decide ((40 : Int) < (m : Int)) = false := decide_eq_false (by omega)
      have z2 : decide ((40 : Int) < (d : Int)) = true := decide_eq_true (by omega)
      go_enter Tryz.func6, Tryz.ntmps6
      go_wp2
      go_ret
      exact ⟨true, rfl, fun h => (by cases h), hb0⟩
  · have z1 : decide ((40 : Int) < (m : Int)) = true := decide_eq_true (by omega)
    go_enter Tryz.func6, Tryz.ntmps6
    go_wp2
    go_ret
    exact ⟨true, rfl, fun h => (by cases h), hb0⟩
end Go.Proofs.YtjmkecaljkcoiaaGreatDoor
