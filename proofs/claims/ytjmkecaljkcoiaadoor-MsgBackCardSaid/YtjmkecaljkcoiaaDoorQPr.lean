import Derived.Laws.AppendOwn
import Derived.Test.YtjmkecaljkcoiaaDoorQOpenF
import Derived.BigQuiet
import Derived.Deep.RegionHeld3
import Derived.Outline
import Derived.Deep.QuietTactic
import Derived.WalkSpells
namespace Go.Proofs.YtjmkecaljkcoiaaDoor
open Go.RowKit
set_option linter.unusedVariables false
structure EncOk {α : Type} (enc : α → List Value) (k : Nat) : Prop where
  len : ∀ x, (enc x).length = k
  one : ∀ x, ∀ v ∈ enc x, v.oneCell' = true
  pos : 0 < k
def ec {α : Type} (enc : α → List Value) (l : List α) : List Value := l.flatMap enc
section
variable {α : Type} {enc : α → List Value} {k : Nat}
theorem ec_cons (x : α) (l : List α) : ec enc (x :: l) = enc x ++ ec enc l := by simp [ec]
theorem ec_append (l m : List α) : ec enc (l ++ m) = ec enc l ++ ec enc m := by simp [ec]
theorem ec_one (x : α) : ec enc [x] = enc x := by simp [ec]
theorem ec_len (h : EncOk enc k) (l : List α) : (ec enc l).length = l.length * k := by
  induction l with
  | nil => simp [ec]
  | cons x l ih => rw [ec_cons, List.length_append, h.len, ih, List.length_cons, Nat.add_mul, Nat.one_mul, Nat.add_comm]
theorem ec_cells (h : EncOk enc k) (l : List α) : ∀ u ∈ ec enc l, u.oneCell' = true := by
  intro u hu
  obtain ⟨x, _, hx⟩ := List.mem_flatMap.1 hu
  exact h.one x u hx
theorem ec_take (h : EncOk enc k) (l : List α) (n : Nat) : (ec enc l).take (n * k) = ec enc (l.take n) := by
  induction l generalizing n with
  | nil => simp [ec]
  | cons x l ih =>
    cases n with
    | zero => simp [ec]
    | succ n => rw [List.take_succ_cons, ec_cons, ec_cons, ← ih, Nat.add_mul, Nat.one_mul, Nat.add_comm, ← h.len x, List.take_length_add_append]
theorem ec_drop (h : EncOk enc k) (l : List α) (n : Nat) : (ec enc l).drop (n * k) = ec enc (l.drop n) := by
  induction l generalizing n with
  | nil => simp [ec]
  | cons x l ih =>
    cases n with
    | zero => simp [ec]
    | succ n => rw [List.drop_succ_cons, ec_cons, ← ih, Nat.add_mul, Nat.one_mul, Nat.add_comm, ← h.len x, List.drop_length_add_append]
theorem ec_at (h : EncOk enc k) {l : List α} {j i : Nat} {v : Value} (hj : j < l.length) (hv : (enc l[j])[i]? = some v) : (ec enc l)[j * k + i]? = some v := by
  have hi : i < (enc l[j]).length := (List.getElem?_eq_some_iff.1 hv).1
  have e : (ec enc l).drop (j * k) = enc l[j] ++ ec enc (l.drop (j + 1)) := by rw [ec_drop h, List.drop_eq_getElem_cons hj, ec_cons]
  rw [← List.getElem?_drop, e, List.getElem?_append_left hi, hv]
def Es (enc : α → List Value) (w : World) (B : Nat) (A : Option Addr) (n : Nat) (l : List α) : Prop :=
  l.length = n ∧ (0 < n → ∃ ad, A = some ad ∧ ad.block < B ∧ ∀ j v, (ec enc l)[j]? = some v → w.cell? (ad.add j) = some v)
variable {w w' : World} {B B' n : Nat} {A : Option Addr} {l : List α}
theorem Es.len (h : Es enc w B A n l) : l.length = n := h.1
theorem Es.none_ : Es enc w B A 0 [] := ⟨rfl, fun h => absurd h (by omega)⟩
theorem Es.at_ (H : EncOk enc k) {j : Nat} (h : Es enc w B A n l) (hj : j < n) : ∃ ad, ∃ hl : j < l.length, A = some ad ∧ ad.block < B ∧ ∀ i v, (enc l[j])[i]? = some v → w.cell? (ad.add (j * k + i)) = some v := by
  obtain ⟨ad, e, hb, hc⟩ := h.2 (by omega)
  have hl : j < l.length := by have := h.1; omega
  exact ⟨ad, hl, e, hb, fun i v hv => hc _ _ (ec_at H hl hv)⟩
theorem Es.keep (h : Es enc w B A n l) (hk : ∀ p : Addr, p.block < B → w'.cell? p = w.cell? p) : Es enc w' B A n l :=
  ⟨h.1, fun hn => by
    obtain ⟨ad, e, hb, hc⟩ := h.2 hn
    exact ⟨ad, e, hb, fun j u hu => (hk _ (by rw [block_of_add]; exact hb)).trans (hc j u hu)⟩⟩
theorem Es.more (h : Es enc w B A n l) (hB : B ≤ B') : Es enc w B' A n l :=
  ⟨h.1, fun hn => by
    obtain ⟨ad, e, hb, hc⟩ := h.2 hn
    exact ⟨ad, e, by omega, hc⟩⟩
theorem Es.below (h : Es enc w B A n l) (hb : Below B w w') : Es enc w' B A n l := h.keep fun _ hp => hb.cell hp
theorem Es.drewN (h : Es enc w B A n l) (m : Nat) : Es enc (w.drewN m) B A n l := h
theorem Es.drew (h : Es enc w B A n l) : Es enc w.drew B A n l := h
theorem Es.alloc (h : Es enc w B A n l) (hB : B ≤ w.heap.size) (o : Obj) : Es enc (w.alloc o) B A n l := h.keep fun p hp => World.cell?_alloc_lt w o p (by omega)
theorem Es.take (H : EncOk enc k) (h : Es enc w B A n l) {m : Nat} (hm : m ≤ n) : Es enc w B A m (l.take m) :=
  ⟨by rw [List.length_take, h.1]; omega, fun hn => by
    obtain ⟨ad, e, hb, hc⟩ := h.2 (by omega)
    refine ⟨ad, e, hb, fun j u hu => hc j u ?_⟩
    rw [← ec_take H, List.getElem?_take] at hu
    split at hu
    · exact hu
    · cases hu⟩
theorem Es.cut (H : EncOk enc k) (h : Es enc w B A n l) {m : Nat} (hm : m ≤ n) (hlt : m < n) : Es enc w B (A.map (·.add (m * k))) (n - m) (l.drop m) := by
  refine ⟨by rw [List.length_drop, h.1], fun _ => ?_⟩
  obtain ⟨ad, rfl, hb, hcell⟩ := h.2 (by omega)
  refine ⟨ad.add (m * k), rfl, by rw [block_of_add]; exact hb, fun j u hu => ?_⟩
  rw [add_of_add]
  refine hcell _ u ?_
  rw [← ec_drop H, List.getElem?_drop] at hu
  exact hu
def OwnE (T : TypeId) (enc : α → List Value) (k : Nat) (w : World) (base : Nat) (v : Value) (n : Nat) (l : List α) : Prop := w.ownsRow base T k v n (ec enc l)
variable {T : TypeId} {base : Nat} {v : Value}
theorem OwnE.nil_ (w : World) (base : Nat) : OwnE T enc k w base (.slice none 0 0) 0 [] := World.ownsRow_nil _ _ _ _
theorem OwnE.len (H : EncOk enc k) (h : OwnE T enc k w base v n l) : l.length = n := by
  have h1 := h.1
  rw [ec_len H] at h1
  exact Nat.eq_of_mul_eq_mul_right H.pos h1
theorem OwnE.es (H : EncOk enc k) {c : Nat} (h : OwnE T enc k w base (.slice A n c) n l) : Es enc w w.heap.size A n l := by
  refine ⟨h.len H, fun hn => ?_⟩
  have h0 := h
  rcases h.2 with ⟨_, h0'⟩ | ⟨g, cap, cur, hv, _, hg, _, _, _, _⟩
  · omega
  · have hA : A = some ⟨g, 0, none⟩ := by injection hv
    subst hA
    exact ⟨_, rfl, (Array.getElem?_eq_some_iff.1 hg).1, fun j x hx => World.ownsRow.cells (g := g) h0 rfl j x hx⟩
theorem OwnE.alloc (h : OwnE T enc k w base v n l) (o : Obj) : OwnE T enc k (w.alloc o) base v n l := World.ownsRow.alloc h o
theorem OwnE.drewN (h : OwnE T enc k w base v n l) (m : Nat) : OwnE T enc k (w.drewN m) base v n l := h
theorem OwnE.drew (h : OwnE T enc k w base v n l) : OwnE T enc k w.drew base v n l := h
theorem OwnE.lt (h : OwnE T enc k w base v n l) : ∀ g, v.ownBlock = some g → base ≤ g ∧ g < w.heap.size := World.ownsRow.lt h
theorem OwnE.below (h : OwnE T enc k w base v n l) (hb : Below B w w') (hv : ∀ g, v.ownBlock = some g → g < B) : OwnE T enc k w' base v n l := by
  refine ⟨h.1, ?_⟩
  rcases h.2 with hn | ⟨g, cap, cur, rfl, hbg, hg, h1, h2, h3, h4⟩
  · exact .inl hn
  · exact .inr ⟨g, cap, cur, rfl, hbg, (hb.block g (hv g rfl)).trans hg, h1, h2, h3, h4⟩
theorem OwnE.later (h : OwnE T enc k w base v n l) (hb : Below w.heap.size w w') : OwnE T enc k w' base v n l := h.below hb fun g hg => (h.lt g hg).2
theorem OwnE.mono {base' : Nat} (h : OwnE T enc k w base v n l) (hb : base' ≤ base) : OwnE T enc k w base' v n l := by
  refine ⟨h.1, ?_⟩
  rcases h.2 with hn | ⟨g, cap, cur, hv, hbg, r⟩
  · exact .inl hn
  · exact .inr ⟨g, cap, cur, hv, by omega, r⟩
theorem OwnE.grown {b : Nat} (h : OwnE T enc k w base v n l) (hg : w.grownBy w' (some b)) (hb : b < base) : OwnE T enc k w' base v n l := by
  refine ⟨h.1, ?_⟩
  rcases h.2 with hn | ⟨g, cap, cur, rfl, hbg, hg', r⟩
  · exact .inl hn
  · exact .inr ⟨g, cap, cur, rfl, hbg, (hg.block g (Array.getElem?_eq_some_iff.1 hg').1 (fun e => by injection e with e; omega)).trans hg', r⟩
theorem OwnE.shape (h : OwnE T enc k w base v n l) : ∃ A c, v = .slice A n c := by
  rcases h.2 with ⟨rfl, rfl⟩ | ⟨g, cap, cur, rfl, _⟩
  · exact ⟨_, _, rfl⟩
  · exact ⟨_, _, rfl⟩
theorem OwnE.cap {c : Nat} (h : OwnE T enc k w base (.slice A n c) n l) : n ≤ c ∧ c ≤ maxLen := by
  rcases h.2 with ⟨hv, rfl⟩ | ⟨g, cap, cur, hv, _, _, h1, h2, _⟩
  · injection hv with _ _ hc; subst hc; exact ⟨Nat.zero_le _, by decide⟩
  · injection hv with _ _ hc; subst hc; exact ⟨h1, h2⟩
theorem rows_of {Q : α → Prop} (H : EncOk enc k) {a : Addr} : ∀ m : Nat, (∀ i, i < m → ∃ x, Q x ∧ ∀ j v, (enc x)[j]? = some v → w.cell? (a.add (i * k + j)) = some v) →
    ∃ l : List α, l.length = m ∧ (∀ x ∈ l, Q x) ∧ ∀ j v, (ec enc l)[j]? = some v → w.cell? (a.add j) = some v
  | 0, _ => ⟨[], rfl, fun x hx => by simp at hx, fun j v hv => by simp [ec] at hv⟩
  | m + 1, h => by
    obtain ⟨l, h1, h2, h3⟩ := rows_of H m fun i hi => h i (by omega)
    obtain ⟨x, hq, hx⟩ := h m (by omega)
    refine ⟨l ++ [x], by simp [h1], fun y hy => ?_, fun j v hv => ?_⟩
    · rw [List.mem_append, List.mem_singleton] at hy
      exact hy.elim (h2 y) (fun e => e ▸ hq)
    · rw [ec_append, ec_one] at hv
      by_cases hj : j < (ec enc l).length
      · rw [List.getElem?_append_left hj] at hv
        exact h3 j v hv
      · rw [List.getElem?_append_right (by omega), ec_len H, h1] at hv
        rw [ec_len H, h1] at hj
        have := hx _ v hv
        rwa [show m * k + (j - m * k) = j from by omega] at this
theorem run_append_e {P : Program} (w : World) (S ty E : TypeId) (i : TypeInfo) (z : Value) (bytes : Nat) (hS : P.underlying S = some (.slice E)) (hi : P.info? E = some i) (hz0 : i.zero = some z) (hz1 : i.size = k) (hz2 : i.bytes = bytes) (hz : z.cells.size = k)
    (H : EncOk enc k) (base n : Nat) (v : Value) (l : List α) (hown : OwnE E enc k w base v n l)
    (B : Nat) (A : Option Addr) (m c : Nat) (l2 : List α) (hr : Es enc w B A m l2) (b0 : n + m ≤ maxLen) (b1 : (n + m) * bytes ≤ 140737488355328) (B0 : Nat) (w0 : World) (hb : Below B0 w0 w) (hB : B0 ≤ base) (hBw : base ≤ w.heap.size) :
    ∃ v' w', (Builtin.append_ #[S, S] ty #[v, .slice A m c]).run P w = .ok v' w' ∧ OwnE E enc k w' base v' (n + m) (l ++ l2) ∧ Below B0 w0 w' ∧ w.heap.size ≤ w'.heap.size ∧ w.grownBy w' v.ownBlock := by
  by_cases hm : m = 0
  · subst hm
    obtain rfl : l2 = [] := List.eq_nil_of_length_eq_zero hr.len
    rcases A with _ | ad
    · refine ⟨v, w, ?_, by simpa using hown, hb, Nat.le_refl _, World.grownBy.refl _ _⟩
      rcases hown.2 with ⟨rfl, rfl⟩ | ⟨g, cap, cur, rfl, _, _, hnc, _⟩
      · simp [Builtin.append_, run_underlying hS, sizeOf, typeInfo, hi, Builtin.lenOf, Builtin.firstCells]
      · simp [Builtin.append_, run_underlying hS, sizeOf, typeInfo, hi, Builtin.lenOf, Builtin.firstCells, hnc, storeCells]
    · obtain ⟨v', w', h1, h2, h3, _⟩ := run_append_own (P := P) w base S ty E i z k bytes hS hi hz0 hz1 hz2 hz H.pos v n _ hown ad 0 c [] (by simp) (by simp) (by simp) b0 b1 hBw
      exact ⟨v', w', h1, by unfold OwnE; simpa using h2, hb.grown h3 (by omega) (by intro g hg; have := hown.lt g hg; omega), h3.size, h3⟩
  · obtain ⟨ad, rfl, _, hc⟩ := hr.2 (by omega)
    obtain ⟨v', w', h1, h2, h3, _⟩ := run_append_own (P := P) w base S ty E i z k bytes hS hi hz0 hz1 hz2 hz H.pos v n _ hown ad m c (ec enc l2) (by rw [ec_len H, hr.len]) hc (ec_cells H l2) b0 b1 hBw
    exact ⟨v', w', h1, by unfold OwnE; rw [ec_append]; exact h2, hb.grown h3 (by omega) (by intro g hg; have := hown.lt g hg; omega), h3.size, h3⟩
end
theorem wp_append_e {α : Type} {enc : α → List Value} {k : Nat} {P : Program} {ops : Array Oper} {rest : List Oper} {o : Oper} {a : Act} {Q : Exit → Act → World → Prop} (w : World) (hg : o.guard = none) (s x : Operand) (S : TypeId)
    (hop : o.op = Op.call { callee := Callee.builtin Builtin.append, args := #[s, x], argTypes := #[S, S] })
    (E : TypeId) (i : TypeInfo) (z : Value) (bytes : Nat) (hS : P.underlying S = some (.slice E)) (hi : P.info? E = some i) (hz0 : i.zero = some z) (hz1 : i.size = k) (hz2 : i.bytes = bytes) (hz : z.cells.size = k) (H : EncOk enc k)
    (base n : Nat) (v : Value) (l : List α) (hs : a.eval s = v) (hown : OwnE E enc k w base v n l)
    (B : Nat) (A : Option Addr) (m c : Nat) (l2 : List α) (hx : a.eval x = .slice A m c) (hr : Es enc w B A m l2) (b0 : n + m ≤ maxLen) (b1 : (n + m) * bytes ≤ 140737488355328) (B0 : Nat) (w0 : World) (hb : Below B0 w0 w) (hB : B0 ≤ base) (hBw : base ≤ w.heap.size)
    (hK : ∀ A' c' w', OwnE E enc k w' base (.slice A' (n + m) c') (n + m) (l ++ l2) → Below B0 w0 w' → w.heap.size ≤ w'.heap.size → w.grownBy w' v.ownBlock → wpList P ops Q rest (a.put o.dst (.slice A' (n + m) c')) w') :
    wpList P ops Q (o :: rest) a w := by
  refine wpList_plain hg fun K hK' => ?_
  obtain ⟨v', w', hrun, r1, r2, r3, r4⟩ := run_append_e w S o.type E i z bytes hS hi hz0 hz1 hz2 hz H base n v l hown B A m c l2 hr b0 b1 B0 w0 hb hB hBw
  obtain ⟨A', c', rfl⟩ := r1.shape
  unfold Oper.wp
  simp [execOp, hop, resolve, invoke, builtin, hs, hx, hrun, Result.andThen]
  exact hK' _ _ (hK _ _ w' r1 r2 r3 r4)
end Go.Proofs.YtjmkecaljkcoiaaDoor
namespace Go.Proofs.YtjmkecaljkcoiaaDoor
open Go.RowKit
def Later (w0 : World) : Type := { v : World // Below w0.heap.size w0 v }
instance later_nonempty (w0 : World) : Nonempty (Later w0) := ⟨⟨w0, Below.refl _ _⟩⟩
def Later.w {w0 : World} (x : Later w0) : World := x.1
theorem Later.below {w0 : World} (x : Later w0) : Below w0.heap.size w0 x.w := x.2
theorem Later.cell {w0 : World} {b o : Nat} {v : Value} (h : w0.cell? ⟨b, o, none⟩ = some v) : ∀ x : Later w0, x.w.cell? ⟨b, o, none⟩ = some v :=
  fun x => (x.2.cell (World.block_lt_of_cell? w0 _ h)).trans h
theorem Later.cellAt {w0 : World} {a : Addr} {v : Value} (h : w0.cell? a = some v) : ∀ x : Later w0, x.w.cell? a = some v :=
  fun x => (x.2.cell (World.block_lt_of_cell? w0 _ h)).trans h
theorem calm_of {P : Program} {f : FuncId} {args : Array Value} {w0 : World} {x : Later w0} {v : Value}
    (h : Calls P f args x.w fun e w' => e = .returned v ∧ Below x.w.heap.size x.w w') : Calls P f args x.w fun e w'' => e = .returned v ∧ ∃ y : Later w0, w'' = y.w :=
  h.mono fun _ w' ⟨he, hb⟩ => ⟨he, ⟨w', x.2.trans (hb.mono x.2.size)⟩, rfl⟩
theorem calm_drawn {P : Program} {f : FuncId} {args : Array Value} {w0 : World} {x : Later w0} {v : Value}
    (h : Calls P f args x.w fun e w' => e = .returned v ∧ Drawn x.w w') : Calls P f args x.w fun e w'' => e = .returned v ∧ ∃ y : Later w0, w'' = y.w :=
  h.mono fun _ w' ⟨he, k, hk⟩ => ⟨he, ⟨w', by rw [hk]; exact below_drewN x.2 k⟩, rfl⟩
theorem wp_region_calm {P : Program} {id : Nat} {Q : Exit → Act → World → Prop} {a : Act} {w : World} {l : List Oper} (hm : P.follows .mixedOrders = true) (hB : Region.lexB .any l.toArray = true)
    (h : wpQuiet P l.toArray (fun w' => ∃ x : Later w, w' = x.w) (fun a' => ∀ w', (∃ x : Later w, w' = x.w) → Q .normal a' w') l a) : (Code.region id l.toArray true).wp P Q a w :=
  wp_region_quiet (C := fun w' => ∃ x : Later w, w' = x.w) hm hB ⟨⟨w.drew, (Below.refl _ _).drew⟩, rfl⟩ (by simpa using h)
end Go.Proofs.YtjmkecaljkcoiaaDoor
namespace Go.Proofs.YtjmkecaljkcoiaaDoor
open Go.RowKit
set_option linter.unusedVariables false
set_option linter.unusedSimpArgs false
def aheadB (i c j d : Nat) : Bool := decide (i * 4294967296 + c < j * 4294967296 + d)
def beforeB (r i c s j d : Nat) : Bool := if r = s then aheadB i c j d else decide (r < s)
end Go.Proofs.YtjmkecaljkcoiaaDoor
namespace Go.Proofs.YtjmkecaljkcoiaaDoor
open Go.RowKit
set_option linter.unusedVariables false
set_option linter.unusedSimpArgs false
structure Pr where
  i : Nat
  k : Nat
  hi : i < 65536
  hk : k < 4294967296
theorem Pr.ext {p q : Pr} (h : p.i = q.i) (h' : p.k = q.k) : p = q := by
  cases p; cases q; simp only at h h'; subst h; subst h'; rfl
instance : DecidableEq Pr := fun p q => if h : p.i = q.i ∧ p.k = q.k then isTrue (Pr.ext h.1 h.2) else isFalse (fun e => h (by rw [e]; exact ⟨rfl, rfl⟩))
instance : Inhabited Pr := ⟨⟨0, 0, by decide, by decide⟩⟩
def Pr.num (p : Pr) : Nat := p.i * 4294967296 + p.k
def Pr.ahead (p q : Pr) : Bool := decide (p.num < q.num)
def prC (p : Pr) : List Value := [.int .u16 (p.i : Int), .int .u32 (p.k : Int)]
theorem prOk : EncOk prC 2 := ⟨fun _ => rfl, fun p v hv => by simp [prC] at hv; rcases hv with rfl | rfl <;> rfl, by decide⟩
theorem info_pid : (Tryd.prog.info? 25).map (fun i => (i.zero, i.size, i.bytes)) = some (some (.agg #[.int .u16 0, .int .u32 0]), 2, 8) := by kernel_rfl
abbrev OwnP (w : World) (base : Nat) (v : Value) (n : Nat) (l : List Pr) : Prop := OwnE 25 prC 2 w base v n l
def Ps0 (w : World) (A : Option Addr) (n c : Nat) (l : List Pr) : Prop := Es prC w w.heap.size A n l ∧ n ≤ c ∧ c ≤ maxLen
theorem pids_row {w : World} {cs : List Value} {A : Option Addr} {n c : Nat} (h : cs = [.slice none 0 0] ∨ ∃ (a : Addr) (len cap : Nat), cs = [.slice (some a) len cap] ∧ len ≤ cap ∧ cap ≤ maxLen ∧
      ∀ i, i < len → ∃ j d : Nat, w.cell? (a.add (i * 2)) = some (.int .u16 (j : Int)) ∧ w.cell? (a.add (i * 2 + 1)) = some (.int .u32 (d : Int)) ∧ j < 65536 ∧ d < 4294967296) (he : (Value.slice A n c).cells.toList = cs) :
    ∃ l, Ps0 w A n c l := by
  simp [Value.cells] at he
  subst he
  rcases h with h | ⟨a, len, cap, h, hl, hm, hc⟩
  · simp only [List.cons.injEq, and_true, Value.slice.injEq] at h
    obtain ⟨rfl, rfl, rfl⟩ := h
    exact ⟨[], Es.none_, Nat.le_refl _, by decide⟩
  · simp only [List.cons.injEq, and_true, Value.slice.injEq] at h
    obtain ⟨rfl, rfl, rfl⟩ := h
    have hall : ∀ m, m ≤ n → ∃ l : List Pr, l.length = m ∧ ∀ j v, (ec prC l)[j]? = some v → w.cell? (a.add j) = some v := by
      intro m
      induction m with
      | zero => intro _; exact ⟨[], rfl, fun j v hv => by simp [ec] at hv⟩
      | succ m ih =>
        intro hmn
        obtain ⟨l, hl1, hl2⟩ := ih (by omega)
        obtain ⟨j, d, h1, h2, hj, hd⟩ := hc m (by omega)
        refine ⟨l ++ [⟨j, d, hj, hd⟩], by simp [hl1], fun x v hv => ?_⟩
        rw [ec_append, ec_one] at hv
        by_cases hx : x < (ec prC l).length
        · rw [List.getElem?_append_left hx] at hv
          exact hl2 x v hv
        · rw [List.getElem?_append_right (by omega), ec_len prOk, hl1] at hv
          rw [ec_len prOk, hl1] at hx
          have hlt : x - m * 2 < 2 := (List.getElem?_eq_some_iff.1 hv).1
          obtain hx0 | hx1 : x = m * 2 ∨ x = m * 2 + 1 := by omega
          · subst hx0
            simp [prC] at hv
            rw [h1, hv]
          · subst hx1
            simp [prC] at hv
            rw [h2, hv]
    obtain ⟨l, hl1, hl2⟩ := hall n (Nat.le_refl _)
    refine ⟨l, ⟨hl1, fun hn => ⟨a, rfl, ?_, hl2⟩⟩, hl, hm⟩
    obtain ⟨j, d, h1, _⟩ := hc 0 hn
    have := World.block_lt_of_cell? w _ h1
    rwa [block_of_add] at this
theorem pr_at {w : World} {ad : Addr} {j : Nat} {q : Pr} (hc : ∀ i v, (prC q)[i]? = some v → w.cell? (ad.add (j * 2 + i)) = some v) :
    w.cell? (ad.add (j * 2)) = some (.int .u16 (q.i : Int)) ∧ w.cell? ⟨(ad.add (j * 2)).block, (ad.add (j * 2)).off + 1, none⟩ = some (.int .u32 (q.k : Int)) := by
  refine ⟨hc 0 _ rfl, ?_⟩
  have h := hc 1 _ rfl
  rw [← add_of_add] at h
  exact h
def NotIn (p : Pr) (l : List Pr) (j : Nat) : Prop := p ∉ l.take j
theorem NotIn.start (p : Pr) (l : List Pr) : NotIn p l 0 := by simp [NotIn]
theorem NotIn.step {p : Pr} {l : List Pr} {j : Nat} (h : NotIn p l j) (hj : j < l.length) (hne : l[j] ≠ p) : NotIn p l (j + 1) := by
  unfold NotIn
  rw [List.take_succ_eq_append_getElem hj, List.mem_append, List.mem_singleton]
  exact fun h' => h'.elim h (fun e => hne e.symm)
theorem NotIn.done {p : Pr} {l : List Pr} {j : Nat} (h : NotIn p l j) (hj : l.length ≤ j) : decide (p ∈ l) = false := by
  unfold NotIn at h
  rw [List.take_of_length_le hj] at h
  exact decide_eq_false h
def SameTo (l m : List Pr) (j : Nat) : Prop := l.take j = m.take j
theorem SameTo.step {l m : List Pr} {j : Nat} (h : SameTo l m j) (h1 : j < l.length) (h2 : j < m.length) (he : l[j] = m[j]) : SameTo l m (j + 1) := by
  unfold SameTo at *
  rw [List.take_succ_eq_append_getElem h1, List.take_succ_eq_append_getElem h2, h, he]
theorem SameTo.done {l m : List Pr} {j : Nat} (h : SameTo l m j) (h1 : l.length ≤ j) (h2 : m.length ≤ j) : l = m := by
  unfold SameTo at h
  rwa [List.take_of_length_le h1, List.take_of_length_le h2] at h
set_option maxRecDepth 100000 in
theorem samep_any (A A' : Option Addr) (n m c c' : Nat) (l l' : List Pr) (B B' : Nat) (w : World) (hA : Es prC w B A n l) (hA' : Es prC w B' A' m l') (hn : n ≤ maxLen) (hm : m ≤ maxLen) :
    Calls Tryd.prog 59 #[.slice A n c, .slice A' m c'] w fun e w' => e = .returned (.bool (decide (l = l'))) ∧ Drawn w w' := by
  unfold maxLen at hn hm
  have hlen := hA.len
  have hlen' := hA'.len
  obtain ⟨r, hr⟩ : ∃ r, r = decide (l = l') := ⟨_, rfl⟩
  rw [← hr]
  by_cases hnm : n = m
  · subst hnm
    have HL := hide hlen
    have HL' := hide hlen'
    have HR := hide hr
    clear hlen hlen' hr
    have h0 : SameTo l l' 0 := by simp [SameTo]
    go_enter Tryd.func59, Tryd.ntmps59
    go_wp2
    go_loopw [5] (fun i wr => ∃ j : Nat, j ≤ n ∧ i = .int .i64 j ∧ SameTo l l' j ∧ Drawn w wr) (fun i _ => n - (intOf i).toNat)
    case atStart => exact ⟨0, Nat.zero_le _, rfl, h0, Drawn.refl _⟩
    case round =>
      obtain ⟨j, hj, rfl, hsame, hd⟩ := hrel
      obtain ⟨n0, rfl⟩ := hd
      by_cases hlt : j < n
      · obtain ⟨ad, hl, rfl, hbl, hc⟩ := hA.at_ prOk hlt
        obtain ⟨ad', hl', rfl, hbl', hc'⟩ := hA'.at_ prOk hlt
        obtain ⟨q, hq⟩ : ∃ q, q = l[j] := ⟨_, rfl⟩
        obtain ⟨p, hp⟩ : ∃ p, p = l'[j] := ⟨_, rfl⟩
        rw [← hq] at hc
        rw [← hp] at hc'
        obtain ⟨c0, c1⟩ := pr_at hc
        obtain ⟨d0, d1⟩ := pr_at hc'
        have HQ := hide hq
        have HP := hide hp
        clear hc hq hc' hp
        have z1 : (0 : Int) ≤ (j : Int) := by omega
        have z2 : (j : Int) < (n : Int) := by omega
        by_cases hqi : q.i = p.i
        · by_cases hqk : q.k = p.k
          · have hst := hsame.step hl hl' (by rw [← HQ.out, ← HP.out]; exact Pr.ext hqi hqk)
            rw [hqi] at c0
            rw [hqk] at c1
            clear hqi hqk
            go_wp2_with fail
            go_quiet (fail)
            go_wp2
            go_roundw
            case rel => exact ⟨j + 1, by omega, by go_num, hst, (by first | exact drawn_one _ _ | exact drawn_two _ _ _)⟩
            case measure => simp [intOf]; omega
          · have hf : decide (l = l') = false := decide_eq_false (fun e => hqk (by rw [HQ.out, HP.out]; subst e; rfl))
            have HI := hide (HR.out.trans hf)
            have q3 : ¬ ((q.k : Int) = (p.k : Int)) := by omega
            rw [hqi] at c0
            clear hqi hqk hf
            go_wp2_with fail
            go_quiet (fail)
            go_wp2
            go_ret
            exact ⟨ret_bool HI.out.symm, (by first | exact drawn_one _ _ | exact drawn_two _ _ _)⟩
        · have hf : decide (l = l') = false := decide_eq_false (fun e => hqi (by rw [HQ.out, HP.out]; subst e; rfl))
          have HI := hide (HR.out.trans hf)
          have q3 : ¬ ((q.i : Int) = (p.i : Int)) := by omega
          clear hqi hf
          go_wp2_with fail
          go_quiet (fail)
          go_wp2
          go_ret
          exact ⟨ret_bool HI.out.symm, (by first | exact drawn_one _ _ | exact drawn_two _ _ _)⟩
      · have hf : decide (l = l') = true := decide_eq_true (hsame.done (by rw [HL.out]; omega) (by rw [HL'.out]; omega))
        have HI := hide (HR.out.trans hf)
        clear hf
        go_wp2
        go_ret
        exact ⟨ret_bool HI.out.symm, drawn_one _ _⟩
  · have hf : decide (l = l') = false := decide_eq_false (fun e => hnm (by rw [← hlen, ← hlen', e]))
    have HI := hide (hr.trans hf)
    have hne : ((n : Int) != (m : Int)) = true := by simp; omega
    clear hf hr hlen hlen'
    go_enter Tryd.func59, Tryd.ntmps59
    go_wp2
    go_ret
    exact ⟨ret_bool HI.out.symm, Drawn.refl _⟩
end Go.Proofs.YtjmkecaljkcoiaaDoor
