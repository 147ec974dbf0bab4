/-
  How a script of acts on a set is read.
-/
import Derived.Test.YtfjefhmpfnnmeaaPr
import Derived.Deep.Strs
namespace Go.Proofs.Ytfjefhmpfnnmeaa
open Go.ChangeShapes Go.WideShapes Go.RowKit
set_option linter.unusedVariables false
set_option linter.unusedSimpArgs false

/-- An act. -/
structure Ac4 where
  kind : Int
  p : Pr
  A : Option Addr
  m : Nat
  c : Nat
  l : List Pr
def acC (a : Ac4) : List Value := [.int .i64 a.kind, .int .u16 (a.p.i : Int), .int .u32 (a.p.k : Int), .slice a.A a.m a.c]
theorem acOk : EncOk acC 4 := ⟨fun _ => rfl, fun p v hv => by simp [acC] at hv; rcases hv with rfl | rfl | rfl | rfl <;> rfl, by decide⟩
/-- What is known of an act that came in. -/
def AcIn (w : World) (a : Ac4) : Prop := (-9223372036854775808 ≤ a.kind ∧ a.kind ≤ 9223372036854775807) ∧ Es prC w w.heap.size a.A a.m a.l ∧ a.m ≤ a.c ∧ a.c ≤ maxLen
/-- A script that came in. -/
def Acts0 (w : World) (A : Option Addr) (n c : Nat) (l : List Ac4) : Prop := Es acC w w.heap.size A n l ∧ n ≤ c ∧ c ≤ maxLen ∧ ∀ a ∈ l, AcIn w a
theorem cells_act : Try.prog.cellsOf 34 = 4 := by kernel_rfl
theorem cells_int : Try.prog.cellsOf 3 = 1 := by kernel_rfl
theorem cells_pids : Try.prog.cellsOf 22 = 1 := by kernel_rfl
section
variable {H : Type} {enc : TypeId × Value → H} {w : World} {base : Nat} {spare : Nat → Bool} {held : Bool}
set_option maxRecDepth 100000 in
theorem act_cells {fuel : Nat} {cs : List Value} {x : DataW H × List MemPlace} (h : DataW.trod enc Try.prog w base spare held fuel 34 cs = some x) : ∃ a : Ac4, cs = acC a ∧ AcIn w a := by
  obtain ⟨y0, y1, y2, n, _, hl, h0, h1, h2⟩ := Go.Deep.trod_struct3 Try.underlying34 h
  rw [cells_act] at hl
  match cs, hl with
  | [a, b, c, d], _ =>
    simp only [cells_int, cells_pid, cells_pids, List.drop_zero, List.drop_succ_cons, List.take_succ_cons, List.take_zero] at h0 h1 h2
    obtain ⟨k, e0, _, hw⟩ := DataW.trod_int Try.underlying3 h0
    obtain ⟨i, q, e1, hi, hq⟩ := pid_cells h1
    obtain ⟨A, m, e, he⟩ : ∃ A m e, d = .slice A m e := by
      rcases open_pids h2 with e2 | ⟨ad, len, cap, e2, _⟩
      · simp only [List.cons.injEq, and_true] at e2; exact ⟨_, _, _, e2⟩
      · simp only [List.cons.injEq, and_true] at e2; exact ⟨_, _, _, e2⟩
    subst he
    obtain ⟨l, h3, h4, h5⟩ := pids_row (open_pids h2) rfl
    simp only [List.cons.injEq, and_true] at e0 e1
    obtain ⟨rfl, rfl⟩ := e1
    subst e0
    exact ⟨⟨k, ⟨i, q, hi, hq⟩, A, m, e, l⟩, rfl, wf_i64 hw, h3, h4, h5⟩
theorem open_acts {fuel : Nat} {cs : List Value} {x : DataW H × List MemPlace} (h : DataW.trod enc Try.prog w base spare held fuel 23 cs = some x) :
    cs = [.slice none 0 0] ∨ ∃ (a : Addr) (len cap : Nat), cs = [.slice (some a) len cap] ∧ len ≤ cap ∧ cap ≤ maxLen ∧
      ∀ i, i < len → ∃ y : Ac4, AcIn w y ∧ ∀ j v, (acC y)[j]? = some v → w.cell? (a.add (i * 4 + j)) = some v := by
  rcases Go.Deep.open_slice Try.underlying23 h with ⟨h0, _⟩ | ⟨a, len, cap, m, n, D, Pl, rfl, _, hl, hm, hmm, _, hi⟩
  · exact .inl h0
  · refine .inr ⟨a, len, cap, rfl, hl, hm, fun i hlt => ?_⟩
    obtain ⟨cs', hc, ht⟩ := hi i (by rw [hmm]; split <;> omega)
    rw [cells_act] at hc
    obtain ⟨y, rfl, hy⟩ := act_cells ht
    obtain ⟨_, _, hat⟩ := World.cells?_some hc
    refine ⟨y, hy, fun j v hv => ?_⟩
    have hj : j < 4 := (List.getElem?_eq_some_iff.1 hv).1
    have := hat j hj
    rw [add_of_add] at this
    exact this.trans hv
end
theorem acts_row {w : World} {cs : List Value} {A : Option Addr} {n c : Nat} (h : cs = [.slice none 0 0] ∨ ∃ (a : Addr) (len cap : Nat), cs = [.slice (some a) len cap] ∧ len ≤ cap ∧ cap ≤ maxLen ∧
      ∀ i, i < len → ∃ y : Ac4, AcIn w y ∧ ∀ j v, (acC y)[j]? = some v → w.cell? (a.add (i * 4 + j)) = some v) (he : (Value.slice A n c).cells.toList = cs) : ∃ l, Acts0 w A n c l := by
  simp [Value.cells] at he
  subst he
  rcases h with h | ⟨a, len, cap, h, hl, hm, hc⟩
  · simp only [List.cons.injEq, and_true, Value.slice.injEq] at h
    obtain ⟨rfl, rfl, rfl⟩ := h
    exact ⟨[], Es.none_, Nat.le_refl _, by decide, fun a ha => by simp at ha⟩
  · simp only [List.cons.injEq, and_true, Value.slice.injEq] at h
    obtain ⟨rfl, rfl, rfl⟩ := h
    obtain ⟨l, h1, h2, h3⟩ := rows_of acOk n hc
    refine ⟨l, ⟨h1, fun hn => ⟨a, rfl, ?_, h3⟩⟩, hl, hm, h2⟩
    obtain ⟨y, _, hy⟩ := hc 0 hn
    have := World.block_lt_of_cell? w _ (hy 0 _ rfl)
    rwa [block_of_add] at this
/-- An act's four cells, as the walk spells them. -/
theorem ac_at {w : World} {ad : Addr} {j : Nat} {q : Ac4} (hc : ∀ i v, (acC q)[i]? = some v → w.cell? (ad.add (j * 4 + i)) = some v) :
    w.cell? (ad.add (j * 4)) = some (.int .i64 q.kind) ∧ w.cell? ⟨(ad.add (j * 4)).block, (ad.add (j * 4)).off + 1, none⟩ = some (.int .u16 (q.p.i : Int)) ∧
    w.cell? ⟨(ad.add (j * 4)).block, (ad.add (j * 4)).off + 2, none⟩ = some (.int .u32 (q.p.k : Int)) ∧ w.cell? ⟨(ad.add (j * 4)).block, (ad.add (j * 4)).off + 3, none⟩ = some (.slice q.A q.m q.c) := by
  refine ⟨hc 0 _ rfl, ?_, ?_, ?_⟩
  · have h := hc 1 _ rfl
    rw [← add_of_add] at h
    exact h
  · have h := hc 2 _ rfl
    rw [← add_of_add] at h
    exact h
  · have h := hc 3 _ rfl
    rw [← add_of_add] at h
    exact h
/-! ### great -/
/-- Are the first j lists short? -/
def Short (l : List Ac4) (j : Nat) : Prop := ∀ a ∈ l.take j, a.m ≤ 40
theorem Short.step {l : List Ac4} {j : Nat} (h : Short l j) (hj : j < l.length) (ha : l[j].m ≤ 40) : Short l (j + 1) := by
  unfold Short at *
  rw [List.take_succ_eq_append_getElem hj]
  intro a h'
  rw [List.mem_append, List.mem_singleton] at h'
  exact h'.elim (h a) (fun e => e ▸ ha)
set_option maxRecDepth 100000 in
theorem great_any (A : Option Addr) (n c : Nat) (l : List Ac4) (w : World) (h : Acts0 w A n c l) :
    Calls Try.prog 7 #[.slice A n c] w fun e w' => ∃ b : Bool, e = .returned (.bool b) ∧ (b = false → ∀ j, j < n → j < 100 → ∀ hj : j < l.length, l[j].m ≤ 40) ∧ Below w.heap.size w w' := by
  obtain ⟨hA, hnc, hcm, hin⟩ := h
  unfold maxLen at hcm
  have hlen := hA.len
  have HL := hide hlen
  have HI := hide hin
  clear hlen hin
  have h0 : Short l 0 := fun a ha => by simp at ha
  go_enter Try.func7, Try.ntmps7
  go_wp2
  go_loopw [3] (fun i wr => ∃ j : Nat, j ≤ n ∧ j ≤ 100 ∧ i = .int .i64 j ∧ Short l j ∧ w = wr) (fun i _ => n - (intOf i).toNat)
  case atStart => exact ⟨0, Nat.zero_le _, by decide, rfl, h0, rfl⟩
  case round =>
    obtain ⟨j, hj, hj2, rfl, hs, rfl⟩ := hrel
    by_cases hlt : j < n
    · have z2 : (j : Int) < (n : Int) := by omega
      by_cases hlt2 : j < 100
      · obtain ⟨ad, hl, rfl, hbl, hc⟩ := hA.at_ acOk hlt
        have hst := hs.step hl
        obtain ⟨y, hy⟩ : ∃ y, y = l[j] := ⟨_, rfl⟩
        rw [← hy] at hc hst
        obtain ⟨c0, c1, c2, c3⟩ := ac_at hc
        have hmc : y.m ≤ 9223372036854775807 := by
          have := HI.out y (by rw [hy]; exact List.getElem_mem hl)
          obtain ⟨_, _, q1, q2⟩ := this
          unfold maxLen at q2
          omega
        clear hy hc
        have z3 : (j : Int) < 100 := by omega
        by_cases hm : y.m ≤ 40
        · have hst := hst hm
          go_wp2
          go_roundw
          case rel => exact ⟨j + 1, by omega, by omega, by go_num, hst, trivial⟩
          case measure => simp [intOf]; omega
        · go_wp2
          go_ret
          exact ⟨true, rfl, fun h => (by cases h), Below.refl _ _⟩
      · have hd : ∀ j, j < n → j < 100 → ∀ hj : j < l.length, l[j].m ≤ 40 := fun i _ h100 hi => hs _ (List.mem_take_iff_getElem.2 ⟨i, by omega, rfl⟩)
        have HD := hide hd
        clear hd
        go_wp2
        go_ret
        exact ⟨false, rfl, fun _ => HD.out, Below.refl _ _⟩
    · have hd : ∀ j, j < n → j < 100 → ∀ hj : j < l.length, l[j].m ≤ 40 := fun i h1 h100 hi => hs _ (List.mem_take_iff_getElem.2 ⟨i, by omega, rfl⟩)
      have HD := hide hd
      clear hd
      go_wp2
      go_ret
      exact ⟨false, rfl, fun _ => HD.out, Below.refl _ _⟩
end Go.Proofs.Ytfjefhmpfnnmeaa
