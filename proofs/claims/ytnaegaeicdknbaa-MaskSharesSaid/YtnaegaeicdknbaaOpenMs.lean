/-
  A slice of masks that came in; shares are compared; what the law of Shares asks of lists.
-/
import Derived.Test.YtnaegaeicdknbaaOpenM
import Derived.Test.YtnaegaeicdknbaaShare2
namespace Go.Proofs.Ytnaegaeicdknbaa
open Go.ChangeShapes Go.WideShapes Go.RowKit
set_option linter.unusedVariables false
set_option linter.unusedSimpArgs false
/-- A slice of masks that came in: the cells of each, two a mask. -/
theorem open_masks {H : Type} {enc : TypeId × Value → H} {w : World} {base : Nat} {spare : Nat → Bool} {held : Bool} {fuel : Nat} {cs : List Value} {x : DataW H × List MemPlace} (h : DataW.trod enc Try.prog w base spare held fuel 42 cs = some x) :
    cs = [.slice none 0 0] ∨ ∃ (a : Addr) (len cap : Nat), cs = [.slice (some a) len cap] ∧ len ≤ cap ∧ cap ≤ maxLen ∧
      ∀ i, i < len → ∃ p q : Nat, w.cell? (a.add (i * 2)) = some (.int .u64 (p : Int)) ∧ w.cell? (a.add (i * 2 + 1)) = some (.int .u64 (q : Int)) ∧ p < 18446744073709551616 ∧ q < 18446744073709551616 := by
  rcases Go.Deep.open_slice Try.underlying42 h with ⟨h0, _⟩ | ⟨a, len, cap, m, n, D, Pl, rfl, _, hl, hm, hmm, _, hi⟩
  · exact .inl h0
  · refine .inr ⟨a, len, cap, rfl, hl, hm, fun i hlt => ?_⟩
    obtain ⟨cs', hc, ht⟩ := hi i (by rw [hmm]; split <;> omega)
    rw [cellsMask] at hc
    obtain ⟨p, q, rfl, hp, hq⟩ := mask_cells ht
    obtain ⟨_, _, hat⟩ := World.cells?_some hc
    have e0 := hat 0 (by decide)
    have e1 := hat 1 (by decide)
    refine ⟨p, q, ?_, ?_, hp, hq⟩
    · simpa [add_of_add] using e0
    · simpa [add_of_add] using e1
/-- A row of masks that came in. -/
def Ms0 (w : World) (A : Option Addr) (n c : Nat) (l : List Mk) : Prop := Es mkC w w.heap.size A n l ∧ n ≤ c ∧ c ≤ maxLen
theorem masks_row {w : World} {cs : List Value} {A : Option Addr} {n c : Nat} (h : cs = [.slice none 0 0] ∨ ∃ (a : Addr) (len cap : Nat), cs = [.slice (some a) len cap] ∧ len ≤ cap ∧ cap ≤ maxLen ∧
      ∀ i, i < len → ∃ p q : Nat, w.cell? (a.add (i * 2)) = some (.int .u64 (p : Int)) ∧ w.cell? (a.add (i * 2 + 1)) = some (.int .u64 (q : Int)) ∧ p < 18446744073709551616 ∧ q < 18446744073709551616) (he : (Value.slice A n c).cells.toList = cs) :
    ∃ l, Ms0 w A n c l := by
  simp [Value.cells] at he
  subst he
  rcases h with h | ⟨a, len, cap, h, hl, hm, hc⟩
  · simp only [List.cons.injEq, and_true, Value.slice.injEq] at h
    obtain ⟨rfl, rfl, rfl⟩ := h
    exact ⟨[], Es.none_, Nat.le_refl _, by decide⟩
  · simp only [List.cons.injEq, and_true, Value.slice.injEq] at h
    obtain ⟨rfl, rfl, rfl⟩ := h
    obtain ⟨l, h1, _, h3⟩ := rows_of (enc := mkC) (k := 2) (w := w) (a := a) (Q := fun _ => True) mkOk n (fun i hi => by
      obtain ⟨p, q, e0, e1, hp, hq⟩ := hc i hi
      refine ⟨⟨p, q, hp, hq⟩, trivial, fun j v hv => ?_⟩
      match j, hv with
      | 0, hv => simp [mkC] at hv; subst hv; exact e0
      | 1, hv => simp [mkC] at hv; subst hv; exact e1
      | j + 2, hv => simp [mkC] at hv)
    refine ⟨l, ⟨h1, fun hn => ⟨a, rfl, ?_, h3⟩⟩, hl, hm⟩
    obtain ⟨p, q, e0, _⟩ := hc 0 hn
    have := World.block_lt_of_cell? w _ e0
    rwa [block_of_add] at this

theorem cellsShare : Try.prog.cellsOf 46 = 3 := by kernel_rfl
theorem cellsInt : Try.prog.cellsOf 3 = 1 := by kernel_rfl
theorem lits_share (m : Nat) (s : Mk) (c : Nat) (hc : c < 9223372036854775808) : Try.prog.keyLits (m + 3) 46 [.int .u64 (s.a : Int), .int .u64 (s.b : Int), .int .i64 (c : Int)] = some [.int .u64 (s.a : Int), .int .u64 (s.b : Int), .int .i64 (c : Int)] := by
  have h0 := lits_mask m s.a s.b s.ha s.hb
  have h3 : (Lit.int .i64 (c : Int)).wf = true := by simp [Lit.wf, IntKind.min, IntKind.max, IntKind.bits, IntKind.signed]; omega
  unfold Program.keyLits
  simp [Try.underlying46, cellsShare, cellsMask, cellsInt, h0]
  unfold Program.keyLits
  simp [underInt, h3]
theorem formed_share (a b c : Int) : (Value.agg #[.int .u64 a, .int .u64 b, .int .i64 c]).formed Try.prog 46 = true := by
  simp [Value.formed, Try.underlying46, cellsShare]
theorem share_self (s : Mk) (c : Nat) (hc : c < 9223372036854775808) (w : World) :
    (Op.equalIn 10000 46 (.agg #[.int .u64 (s.a : Int), .int .u64 (s.b : Int), .int .i64 (c : Int)]) (.agg #[.int .u64 (s.a : Int), .int .u64 (s.b : Int), .int .i64 (c : Int)])).run Try.prog w = .ok true w := by
  obtain ⟨r, hr, hi⟩ := run_equalIn_deep 9997 3 46 (by kernel_rfl) w 3 3 (.agg #[.int .u64 (s.a : Int), .int .u64 (s.b : Int), .int .i64 (c : Int)]) (.agg #[.int .u64 (s.a : Int), .int .u64 (s.b : Int), .int .i64 (c : Int)]) _ _ (formed_share _ _ _) (formed_share _ _ _) (lits_share 0 s c hc) (lits_share 0 s c hc)
  have e : r = true := hi.2 rfl
  rw [e] at hr
  exact hr
theorem mk_eql (p q : Mk) (w : World) : (Op.equalIn 10000 24 (.agg #[.int .u64 (p.a : Int), .int .u64 (p.b : Int)]) (.agg #[.int .u64 (q.a : Int), .int .u64 (q.b : Int)])).run Try.prog w = .ok (decide (p = q)) w := by
  rw [mask_eql p.a p.b q.a q.b p.ha p.hb q.ha q.hb]
  congr 1
  apply decide_eq_decide.2
  exact ⟨fun h => Mk.ext' h.1 h.2, fun h => by rw [h]; exact ⟨rfl, rfl⟩⟩

/-! ### Lists -/
theorem dedM_prefix (a b : List Mk) : ∃ t, dedM (a ++ b) = dedM a ++ t := by
  induction b using snoc_ind with
  | h0 => exact ⟨[], by simp⟩
  | hs b x ih =>
    obtain ⟨t, ht⟩ := ih
    rw [← List.append_assoc, dedM_snoc, ht, dedK]
    split
    · exact ⟨t, rfl⟩
    · exact ⟨t ++ [x], by rw [List.append_assoc]⟩
/-- So many unlike ones ahead of i. -/
def unlike (l : List Mk) (i : Nat) : Nat := (dedM (l.take i)).length
theorem unlike_zero (l : List Mk) : unlike l 0 = 0 := by simp [unlike, dedM]
theorem unlike_all (l : List Mk) (i : Nat) (h : l.length ≤ i) : unlike l i = (shL l).length := by rw [unlike, List.take_of_length_le h, shL_len]
theorem unlike_le (l : List Mk) (i : Nat) : unlike l i ≤ (shL l).length := by
  obtain ⟨t, ht⟩ := dedM_prefix (l.take i) (l.drop i)
  rw [List.take_append_drop] at ht
  rw [unlike, shL_len, ht, List.length_append]
  omega
theorem unlike_old {l : List Mk} {i : Nat} (hi : i < l.length) (h : l[i] ∈ l.take i) : unlike l (i + 1) = unlike l i := by
  unfold unlike
  rw [List.take_succ_eq_append_getElem hi, dedM_snoc, dedK, if_pos ((mem_dedM _ _).2 h)]
theorem unlike_new {l : List Mk} {i : Nat} (hi : i < l.length) (h : l[i] ∉ l.take i) : unlike l (i + 1) = unlike l i + 1 ∧ (shL l)[unlike l i]? = some (l[i], l.count l[i]) := by
  have e : dedM (l.take (i + 1)) = dedM (l.take i) ++ [l[i]] := by
    rw [List.take_succ_eq_append_getElem hi, dedM_snoc, dedK, if_neg (fun h' => h ((mem_dedM _ _).1 h'))]
  refine ⟨by unfold unlike; rw [e, List.length_append]; rfl, ?_⟩
  apply shL_at
  obtain ⟨t, ht⟩ := dedM_prefix (l.take (i + 1)) (l.drop (i + 1))
  rw [List.take_append_drop, e] at ht
  rw [ht, List.append_assoc, unlike, List.getElem?_append_right (Nat.le_refl _)]
  simp
/-- In the inner loop: the first k were looked at. -/
structure InTo (l : List Mk) (x : Mk) (i k c : Nat) (f : Bool) : Prop where
  cnt_ : c = (l.take k).count x
  fst_ : f = decide (x ∉ l.take (min k i))
theorem InTo.start (l : List Mk) (x : Mk) (i : Nat) : InTo l x i 0 0 true := ⟨by simp, by simp⟩
theorem InTo.le {l : List Mk} {x : Mk} {i k c : Nat} {f : Bool} (h : InTo l x i k c f) : c ≤ k := by
  rw [h.cnt_]
  exact Nat.le_trans List.count_le_length (List.length_take_le _ _)
theorem InTo.no {l : List Mk} {x : Mk} {i k c : Nat} {f : Bool} (h : InTo l x i k c f) (hk : k < l.length) (hx : ¬ l[k] = x) : InTo l x i (k + 1) c f := by
  obtain ⟨h1, h2⟩ := h
  refine ⟨?_, ?_⟩
  · rw [List.take_succ_eq_append_getElem hk, List.count_append, ← h1]
    simp [List.count_singleton, hx]
  · rw [h2]
    apply decide_eq_decide.2
    by_cases hki : k < i
    · rw [Nat.min_eq_left (show k ≤ i by omega), Nat.min_eq_left (show k + 1 ≤ i by omega), List.take_succ_eq_append_getElem hk]
      simp only [List.mem_append, List.mem_singleton]
      constructor
      · intro h' h''
        rcases h'' with h'' | h''
        · exact h' h''
        · exact hx h''.symm
      · exact fun h' h'' => h' (.inl h'')
    · rw [Nat.min_eq_right (show i ≤ k by omega), Nat.min_eq_right (show i ≤ k + 1 by omega)]
theorem InTo.yes {l : List Mk} {x : Mk} {i k c : Nat} {f : Bool} (h : InTo l x i k c f) (hk : k < l.length) (hx : l[k] = x) : InTo l x i (k + 1) (c + 1) (f && decide (i ≤ k)) := by
  obtain ⟨h1, h2⟩ := h
  refine ⟨?_, ?_⟩
  · rw [List.take_succ_eq_append_getElem hk, List.count_append, ← h1, hx]
    simp
  · rw [h2]
    by_cases hki : k < i
    · rw [Nat.min_eq_left (show k + 1 ≤ i by omega), List.take_succ_eq_append_getElem hk, hx, decide_eq_false (show ¬ i ≤ k by omega), Bool.and_false]
      simp
    · rw [Nat.min_eq_right (show i ≤ k by omega), Nat.min_eq_right (show i ≤ k + 1 by omega), decide_eq_true (show i ≤ k by omega), Bool.and_true]
theorem InTo.done {l : List Mk} {x : Mk} {i k c : Nat} {f : Bool} (h : InTo l x i k c f) (hk : l.length ≤ k) (hi : i < l.length) : c = l.count x ∧ f = decide (x ∉ l.take i) := by
  obtain ⟨h1, h2⟩ := h
  rw [List.take_of_length_le hk] at h1
  rw [Nat.min_eq_right (by omega)] at h2
  exact ⟨h1, h2⟩
end Go.Proofs.Ytnaegaeicdknbaa
