import Derived.Laws.AppendOwn
import Derived.Test.YtjmkecaljkcoiaaGreatDoorQOpenF
namespace Go.Proofs.YtjmkecaljkcoiaaGreatDoor
open Go.RowKit
set_option linter.unusedVariables false
structure EncOk {α : Type} (enc : α → List Value) (k : Nat) : Prop where
  len : ∀ x, (enc x).length = k
  one : ∀ x, ∀ v ∈ enc x, v.oneCell' = true
  pos : 0 < k
def ec {α : Type} (enc : α → List Value) (l : List α) : List Value := l.flatMap enc
section
variable {α : Type} {enc : α → List Value} {k : Nat}
theorem ec_cons (x : α) (l : List α) : ec enc (x :: l) = enc x ++ ec enc l := by simp [ec]
theorem ec_append (l m : List α) : ec enc (l ++ m) = ec enc l ++ ec enc m := by simp [ec]
theorem ec_one (x : α) : ec enc [x] = enc x := by simp [ec]
theorem ec_len (h : EncOk enc k) (l : List α) : (ec enc l).length = l.length * k := by
  induction l with
  | nil => simp [ec]
  | cons x l ih => rw [ec_cons, List.length_append, h.len, ih, List.length_cons, Nat.add_mul, Nat.one_mul, Nat.add_comm]
theorem ec_cells (h : EncOk enc k) (l : List α) : ∀ u ∈ ec enc l, u.oneCell' = true := by
  intro u hu
  obtain ⟨x, _, hx⟩ := List.mem_flatMap.1 hu
  exact h.one x u hx
theorem ec_take (h : EncOk enc k) (l : List α) (n : Nat) : (ec enc l).take (n * k) = ec enc (l.take n) := by
  induction l generalizing n with
  | nil => simp [ec]
  | cons x l ih =>
    cases n with
    | zero => simp [ec]
    | succ n => rw [List.take_succ_cons, ec_cons, ec_cons, ← ih, Nat.add_mul, Nat.one_mul, Nat.add_comm, ← h.len x, List.take_length_add_append]
theorem ec_drop (h : EncOk enc k) (l : List α) (n : Nat) : (ec enc l).drop (n * k) = ec enc (l.drop n) := by
  induction l generalizing n with
  | nil => simp [ec]
  | cons x l ih =>
    cases n with
    | zero => simp [ec]
    | succ n => rw [List.drop_succ_cons, ec_cons, ← ih, Nat.add_mul, Nat.one_mul, Nat.add_comm, ← h.len x, List.drop_length_add_append]
theorem ec_at (h : EncOk enc k) {l : List α} {j i : Nat} {v : Value} (hj : j < l.length) (hv : (enc l[j])[i]? = some v) : (ec enc l)[j * k + i]? = some v := by
  have hi : i < (enc l[j]).length := (List.getElem?_eq_some_iff.1 hv).1
  have e : (ec enc l).drop (j * k) = enc l[j] ++ ec enc (l.drop (j + 1)) := by rw [ec_drop h, List.drop_eq_getElem_cons hj, ec_cons]
  rw [← List.getElem?_drop, e, List.getElem?_append_left hi, hv]
def Es (enc : α → List Value) (w : World) (B : Nat) (A : Option Addr) (n : Nat) (l : List α) : Prop :=
  l.length = n ∧ (0 < n → ∃ ad, A = some ad ∧ ad.block < B ∧ ∀ j v, (ec enc l)[j]? = some v → w.cell? (ad.add j) = some v)
variable {w w' : World} {B B' n : Nat} {A : Option Addr} {l : List α}
theorem Es.len (h : Es enc w B A n l) : l.length = n := h.1
theorem Es.none_ : Es enc w B A 0 [] := ⟨rfl, fun h => absurd h (by omega)⟩
theorem Es.at_ (H : EncOk enc k) {j : Nat} (h : Es enc w B A n l) (hj : j < n) : ∃ ad, ∃ hl : j < l.length, A = some ad ∧ ad.block < B ∧ ∀ i v, (enc l[j])[i]? = some v → w.cell? (ad.add (j * k + i)) = some v := by
  obtain ⟨ad, e, hb, hc⟩ := h.2 (by omega)
  have hl : j < l.length := by have := h.1; omega
  exact ⟨ad, hl, e, hb, fun i v hv => hc _ _ (ec_at H hl hv)⟩
theorem Es.keep (h : Es enc w B A n l) (hk : ∀ p : Addr, p.block < B → w'.cell? p = w.cell? p) : Es enc w' B A n l :=
  ⟨h.1, fun hn => by
    obtain ⟨ad, e, hb, hc⟩ := h.2 hn
    exact ⟨ad, e, hb, fun j u hu => (hk _ (by rw [block_of_add]; exact hb)).trans (hc j u hu)⟩⟩
theorem Es.more (h : Es enc w B A n l) (hB : B ≤ B') : Es enc w B' A n l :=
  ⟨h.1, fun hn => by
    obtain ⟨ad, e, hb, hc⟩ := h.2 hn
    exact ⟨ad, e, by omega, hc⟩⟩
theorem Es.below (h : Es enc w B A n l) (hb : Below B w w') : Es enc w' B A n l := h.keep fun _ hp => hb.cell hp
theorem Es.drewN (h : Es enc w B A n l) (m : Nat) : Es enc (w.drewN m) B A n l := h
theorem Es.drew (h : Es enc w B A n l) : Es enc w.drew B A n l := h
theorem Es.alloc (h : Es enc w B A n l) (hB : B ≤ w.heap.size) (o : Obj) : Es enc (w.alloc o) B A n l := h.keep fun p hp => World.cell?_alloc_lt w o p (by omega)
theorem Es.take (H : EncOk enc k) (h : Es enc w B A n l) {m : Nat} (hm : m ≤ n) : Es enc w B A m (l.take m) :=
  ⟨by rw [List.length_take, h.1]; omega, fun hn => by
    obtain ⟨ad, e, hb, hc⟩ := h.2 (by omega)
    refine ⟨ad, e, hb, fun j u hu => hc j u ?_⟩
    rw [← ec_take H, List.getElem?_take] at hu
    split at hu
    · exact hu
    · cases hu⟩
theorem Es.cut (H : EncOk enc k) (h : Es enc w B A n l) {m : Nat} (hm : m ≤ n) (hlt : m < n) : Es enc w B (A.map (·.add (m * k))) (n - m) (l.drop m) := by
  refine ⟨by rw [List.length_drop, h.1], fun _ => ?_⟩
  obtain ⟨ad, rfl, hb, hcell⟩ := h.2 (by omega)
  refine ⟨ad.add (m * k), rfl, by rw [block_of_add]; exact hb, fun j u hu => ?_⟩
  rw [add_of_add]
  refine hcell _ u ?_
  rw [← ec_drop H, List.getElem?_drop] at hu
  exact hu
def OwnE (T : TypeId) (enc : α → List Value) (k : Nat) (w : World) (base : Nat) (v : Value) (n : Nat) (l : List α) : Prop := w.ownsRow base T k v n (ec enc l)
variable {T : TypeId} {base : Nat} {v : Value}
theorem OwnE.nil_ (w : World) (base : Nat) : OwnE T enc k w base (.slice none 0 0) 0 [] := World.ownsRow_nil _ _ _ _
theorem OwnE.len (H : EncOk enc k) (h : OwnE T enc k w base v n l) : l.length = n := by
  have h1 := h.1
  rw [ec_len H] at h1
  exact Nat.eq_of_mul_eq_mul_right H.pos h1
theorem OwnE.es (H : EncOk enc k) {c : Nat} (h : OwnE T enc k w base (.slice A n c) n l) : Es enc w w.heap.size A n l := by
  refine ⟨h.len H, fun hn => ?_⟩
  have h0 := h
  rcases h.2 with ⟨_, h0'⟩ | ⟨g, cap, cur, hv, _, hg, _, _, _, _⟩
  · omega
  · have hA : A = some ⟨g, 0, none⟩ := by injection hv
    subst hA
    exact ⟨_, rfl, (Array.getElem?_eq_some_iff.1 hg).1, fun j x hx => World.ownsRow.cells (g := g) h0 rfl j x hx⟩
theorem OwnE.alloc (h : OwnE T enc k w base v n l) (o : Obj) : OwnE T enc k (w.alloc o) base v n l := World.ownsRow.alloc h o
theorem OwnE.drewN (h : OwnE T enc k w base v n l) (m : Nat) : OwnE T enc k (w.drewN m) base v n l := h
theorem OwnE.drew (h : OwnE T enc k w base v n l) : OwnE T enc k w.drew base v n l := h
theorem OwnE.lt (h : OwnE T enc k w base v n l) : ∀ g, v.ownBlock = some g → base ≤ g ∧ g < w.heap.size := World.ownsRow.lt h
theorem OwnE.below (h : OwnE T enc k w base v n l) (hb : Below B w w') (hv : ∀ g, v.ownBlock = some g → g < B) : OwnE T enc k w' base v n l := by
  refine ⟨h.1, ?_⟩
  rcases h.2 with hn | ⟨g, cap, cur, rfl, hbg, hg, h1, h2, h3, h4⟩
  · exact .inl hn
  · exact .inr ⟨g, cap, cur, rfl, hbg, (hb.block g (hv g rfl)).trans hg, h1, h2, h3, h4⟩
theorem OwnE.later (h : OwnE T enc k w base v n l) (hb : Below w.heap.size w w') : OwnE T enc k w' base v n l := h.below hb fun g hg => (h.lt g hg).2
theorem OwnE.mono {base' : Nat} (h : OwnE T enc k w base v n l) (hb : base' ≤ base) : OwnE T enc k w base' v n l := by
  refine ⟨h.1, ?_⟩
  rcases h.2 with hn | ⟨g, cap, cur, hv, hbg, r⟩
  · exact .inl hn
  · exact .inr ⟨g, cap, cur, hv, by omega, r⟩
theorem OwnE.grown {b : Nat} (h : OwnE T enc k w base v n l) (hg : w.grownBy w' (some b)) (hb : b < base) : OwnE T enc k w' base v n l := by
  refine ⟨h.1, ?_⟩
  rcases h.2 with hn | ⟨g, cap, cur, rfl, hbg, hg', r⟩
  · exact .inl hn
  · exact .inr ⟨g, cap, cur, rfl, hbg, (hg.block g (Array.getElem?_eq_some_iff.1 hg').1 (fun e => by injection e with e; omega)).trans hg', r⟩
theorem OwnE.shape (h : OwnE T enc k w base v n l) : ∃ A c, v = .slice A n c := by
  rcases h.2 with ⟨rfl, rfl⟩ | ⟨g, cap, cur, rfl, _⟩
  · exact ⟨_, _, rfl⟩
  · exact ⟨_, _, rfl⟩
theorem OwnE.cap {c : Nat} (h : OwnE T enc k w base (.slice A n c) n l) : n ≤ c ∧ c ≤ maxLen := by
  rcases h.2 with ⟨hv, rfl⟩ | ⟨g, cap, cur, hv, _, _, h1, h2, _⟩
  · injection hv with _ _ hc; subst hc; exact ⟨Nat.zero_le _, by decide⟩
  · injection hv with _ _ hc; subst hc; exact ⟨h1, h2⟩
theorem rows_of {Q : α → Prop} (H : EncOk enc k) {a : Addr} : ∀ m : Nat, (∀ i, i < m → ∃ x, Q x ∧ ∀ j v, (enc x)[j]? = some v → w.cell? (a.add (i * k + j)) = some v) →
    ∃ l : List α, l.length = m ∧ (∀ x ∈ l, Q x) ∧ ∀ j v, (ec enc l)[j]? = some v → w.cell? (a.add j) = some v
  | 0, _ => ⟨[], rfl, fun x hx => by simp at hx, fun j v hv => by simp [ec] at hv⟩
  | m + 1, h => by
    obtain ⟨l, h1, h2, h3⟩ := rows_of H m fun i hi => h i (by omega)
    obtain ⟨x, hq, hx⟩ := h m (by omega)
    refine ⟨l ++ [x], by simp [h1], fun y hy => ?_, fun j v hv => ?_⟩
    · rw [List.mem_append, List.mem_singleton] at hy
      exact hy.elim (h2 y) (fun e => e ▸ hq)
    · rw [ec_append, ec_one] at hv
      by_cases hj : j < (ec enc l).length
      · rw [List.getElem?_append_left hj] at hv
        exact h3 j v hv
      · rw [List.getElem?_append_right (by omega), ec_len H, h1] at hv
        rw [ec_len H, h1] at hj
        have := hx _ v hv
        rwa [show m * k + (j - m * k) = j from by omega] at this
theorem run_append_e {P : Program} (w : World) (S ty E : TypeId) (i : TypeInfo) (z : Value) (bytes : Nat) (hS : P.underlying S = some (.slice E)) (hi : P.info? E = some i) (hz0 : i.zero = some z) (hz1 : i.size = k) (hz2 : i.bytes = bytes) (hz : z.cells.size = k)
    (H : EncOk enc k) (base n : Nat) (v : Value) (l : List α) (hown : OwnE E enc k w base v n l)
    (B : Nat) (A : Option Addr) (m c : Nat) (l2 : List α) (hr : Es enc w B A m l2) (b0 : n + m ≤ maxLen) (b1 : (n + m) * bytes ≤ 140737488355328) (B0 : Nat) (w0 : World) (hb : Below B0 w0 w) (hB : B0 ≤ base) (hBw : base ≤ w.heap.size) :
    ∃ v' w', (Builtin.append_ #[S, S] ty #[v, .slice A m c]).run P w = .ok v' w' ∧ OwnE E enc k w' base v' (n + m) (l ++ l2) ∧ Below B0 w0 w' ∧ w.heap.size ≤ w'.heap.size ∧ w.grownBy w' v.ownBlock := by
  by_cases hm : m = 0
  · subst hm
    obtain rfl : l2 = [] := List.eq_nil_of_length_eq_zero hr.len
    rcases A with _ | ad
    · refine ⟨v, w, ?_, by simpa using hown, hb, Nat.le_refl _, World.grownBy.refl _ _⟩
      rcases hown.2 with ⟨rfl, rfl⟩ | ⟨g, cap, cur, rfl, _, _, hnc, _⟩
      · simp [Builtin.append_, run_underlying hS, sizeOf, typeInfo, hi, Builtin.lenOf, Builtin.firstCells]
      · simp [Builtin.append_, run_underlying hS, sizeOf, typeInfo, hi, Builtin.lenOf, Builtin.firstCells, hnc, storeCells]
    · obtain ⟨v', w', h1, h2, h3, _⟩ := run_append_own (P := P) w base S ty E i z k bytes hS hi hz0 hz1 hz2 hz H.pos v n _ hown ad 0 c [] (by simp) (by simp) (by simp) b0 b1 hBw
      exact ⟨v', w', h1, by unfold OwnE; simpa using h2, hb.grown h3 (by omega) (by intro g hg; have := hown.lt g hg; omega), h3.size, h3⟩
  · obtain ⟨ad, rfl, _, hc⟩ := hr.2 (by omega)
    obtain ⟨v', w', h1, h2, h3, _⟩ := run_append_own (P := P) w base S ty E i z k bytes hS hi hz0 hz1 hz2 hz H.pos v n _ hown ad m c (ec enc l2) (by rw [ec_len H, hr.len]) hc (ec_cells H l2) b0 b1 hBw
    exact ⟨v', w', h1, by unfold OwnE; rw [ec_append]; exact h2, hb.grown h3 (by omega) (by intro g hg; have := hown.lt g hg; omega), h3.size, h3⟩
end
theorem wp_append_e {α : Type} {enc : α → List Value} {k : Nat} {P : Program} {ops : Array Oper} {rest : List Oper} {o : Oper} {a : Act} {Q : Exit → Act → World → Prop} (w : World) (hg : o.guard = none) (s x : Operand) (S : TypeId)
    (hop : o.op = Op.call { callee := Callee.builtin Builtin.append, args := #[s, x], argTypes := #[S, S] })
    (E : TypeId) (i : TypeInfo) (z : Value) (bytes : Nat) (hS : P.underlying S = some (.slice E)) (hi : P.info? E = some i) (hz0 : i.zero = some z) (hz1 : i.size = k) (hz2 : i.bytes = bytes) (hz : z.cells.size = k) (H : EncOk enc k)
    (base n : Nat) (v : Value) (l : List α) (hs : a.eval s = v) (hown : OwnE E enc k w base v n l)
    (B : Nat) (A : Option Addr) (m c : Nat) (l2 : List α) (hx : a.eval x = .slice A m c) (hr : Es enc w B A m l2) (b0 : n + m ≤ maxLen) (b1 : (n + m) * bytes ≤ 140737488355328) (B0 : Nat) (w0 : World) (hb : Below B0 w0 w) (hB : B0 ≤ base) (hBw : base ≤ w.heap.size)
    (hK : ∀ A' c' w', OwnE E enc k w' base (.slice A' (n + m) c') (n + m) (l ++ l2) → Below B0 w0 w' → w.heap.size ≤ w'.heap.size → w.grownBy w' v.ownBlock → wpList P ops Q rest (a.put o.dst (.slice A' (n + m) c')) w') :
    wpList P ops Q (o :: rest) a w := by
  refine wpList_plain hg fun K hK' => ?_
  obtain ⟨v', w', hrun, r1, r2, r3, r4⟩ := run_append_e w S o.type E i z bytes hS hi hz0 hz1 hz2 hz H base n v l hown B A m c l2 hr b0 b1 B0 w0 hb hB hBw
  obtain ⟨A', c', rfl⟩ := r1.shape
  unfold Oper.wp
  simp [execOp, hop, resolve, invoke, builtin, hs, hx, hrun, Result.andThen]
  exact hK' _ _ (hK _ _ w' r1 r2 r3 r4)
end Go.Proofs.YtjmkecaljkcoiaaGreatDoor
