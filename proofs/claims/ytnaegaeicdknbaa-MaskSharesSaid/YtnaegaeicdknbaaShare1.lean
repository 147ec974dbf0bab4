/-
  Shares: rows of shares that the call makes; a map from masks to places.
-/
import Derived.Test.YtnaegaeicdknbaaShareM
import Derived.Test.YtnaegaeicdknbaaMask8
import Derived.Maps.AppendAt
namespace Go.Proofs.Ytnaegaeicdknbaa
open Go.RowKit Go.Maps
set_option linter.unusedVariables false
set_option linter.unusedSimpArgs false

section
variable {α : Type} {enc : α → List Value} {k : Nat}
theorem ec_set (h : EncOk enc k) (L : List α) (j i : Nat) (y : α) (u : Value) (hj : j < L.length) (hi : i < k) (he : enc y = (enc L[j]).set i u) : ec enc (L.set j y) = (ec enc L).set (j * k + i) u := by
  induction L generalizing j with
  | nil => simp at hj
  | cons x L ih =>
    cases j with
    | zero =>
      rw [List.set_cons_zero, ec_cons, ec_cons, Nat.zero_mul, Nat.zero_add, List.set_append_left _ _ (by rw [h.len]; exact hi)]
      rw [he]; rfl
    | succ j =>
      rw [List.set_cons_succ, ec_cons, ec_cons, ih j (by simpa using hj) (by simpa using he), List.set_append_right _ _ (by rw [h.len, Nat.add_mul]; omega), h.len]
      congr 2
      rw [Nat.add_mul]; omega
variable {w : World} {T : TypeId} {base n c g : Nat} {L : List α}
theorem OwnE.stored (H : EncOk enc k) (h : OwnE T enc k w base (.slice (some ⟨g, 0, none⟩) n c) n L) {j i : Nat} {y : α} {u : Value} (hj : j < L.length) (hi : i < k) (he : enc y = (enc L[j]).set i u) :
    OwnE T enc k (w.setCell ⟨g, j * k + i, none⟩ u) base (.slice (some ⟨g, 0, none⟩) n c) n (L.set j y) := by
  have := (World.ownsRow.stored h (j * k + i) u).1
  unfold OwnE
  rw [ec_set H L j i y u hj hi he]
  exact this
theorem OwnE.cell_ (H : EncOk enc k) (h : OwnE T enc k w base (.slice (some ⟨g, 0, none⟩) n c) n L) {j i : Nat} {v : Value} (hj : j < L.length) (hi : i < k) (hv : (enc L[j])[i]? = some v) : w.cell? ⟨g, j * k + i, none⟩ = some v := by
  have hl := h.len H
  have hlt : j * k + i < n * k := by
    have : (j + 1) * k ≤ n * k := Nat.mul_le_mul_right k (by omega)
    rw [Nat.add_mul] at this
    omega
  rw [World.ownsRow.cellAt h (j * k + i) hlt]
  exact ec_at H hj hv
theorem OwnE.fz_ (h : OwnE T enc k w base (.slice (some ⟨g, 0, none⟩) n c) n L) (j : Nat) : w.frozen? ⟨g, j, none⟩ = false := World.ownsRow.frozenAt h j
theorem OwnE.form {A : Option Addr} (h : OwnE T enc k w base (.slice A n c) n L) (hn : 0 < n) : ∃ g, A = some ⟨g, 0, none⟩ ∧ base ≤ g ∧ g < w.heap.size := by
  rcases h.2 with ⟨_, h0⟩ | ⟨g, cap, cur, hv, hb, hg, _⟩
  · omega
  · injection hv with h1
    exact ⟨g, h1, hb, (Array.getElem?_eq_some_iff.1 hg).1⟩
end
/-- wp_append_e, where the row's block is told. -/
theorem wp_append_g {α : Type} {enc : α → List Value} {k : Nat} {P : Program} {ops : Array Oper} {rest : List Oper} {o : Oper} {a : Act} {Q : Exit → Act → World → Prop} (w : World) (hg : o.guard = none) (s x : Operand) (S : TypeId)
    (hop : o.op = Op.call { callee := Callee.builtin Builtin.append, args := #[s, x], argTypes := #[S, S] })
    (E : TypeId) (i : TypeInfo) (z : Value) (bytes : Nat) (hS : P.underlying S = some (.slice E)) (hi : P.info? E = some i) (hz0 : i.zero = some z) (hz1 : i.size = k) (hz2 : i.bytes = bytes) (hz : z.cells.size = k) (H : EncOk enc k)
    (base n : Nat) (v : Value) (l : List α) (hs : a.eval s = v) (hown : OwnE E enc k w base v n l)
    (B : Nat) (A : Option Addr) (m c : Nat) (l2 : List α) (hx : a.eval x = .slice A m c) (hr : Es enc w B A m l2) (b0 : n + m ≤ maxLen) (b1 : (n + m) * bytes ≤ 140737488355328) (B0 : Nat) (w0 : World) (hb : Below B0 w0 w) (hB : B0 ≤ base) (hBw : base ≤ w.heap.size) (hm : 0 < n + m)
    (hK : ∀ g c' w', OwnE E enc k w' base (.slice (some ⟨g, 0, none⟩) (n + m) c') (n + m) (l ++ l2) → Below B0 w0 w' → w.heap.size ≤ w'.heap.size → w.grownBy w' v.ownBlock → wpList P ops Q rest (a.put o.dst (.slice (some ⟨g, 0, none⟩) (n + m) c')) w') :
    wpList P ops Q (o :: rest) a w :=
  wp_append_e w hg s x S hop E i z bytes hS hi hz0 hz1 hz2 hz H base n v l hs hown B A m c l2 hx hr b0 b1 B0 w0 hb hB hBw (fun A' c' w' h1 h2 h3 h4 => by
    obtain ⟨g, rfl, _, _⟩ := OwnE.form h1 hm
    exact hK g c' w' h1 h2 h3 h4)

/-- Where a mask stands. -/
def placeF : List Mk → Mk → Nat
  | [], _ => 0
  | q :: r, p => if q = p then 0 else if p ∈ r then placeF r p + 1 else 0
theorem placeF_no {fs : List Mk} {p : Mk} (h : p ∉ fs) : placeF fs p = 0 := by
  cases fs with
  | nil => rfl
  | cons q r =>
    unfold placeF
    rw [if_neg (fun e => h (by simp [e])), if_neg (fun e => h (by simp [e]))]
theorem placeF_at {fs : List Mk} {p : Mk} (h : p ∈ fs) : fs[placeF fs p]? = some p := by
  induction fs with
  | nil => simp at h
  | cons q r ih =>
    unfold placeF
    by_cases e : q = p
    · rw [if_pos e]; simp [e]
    · have hr : p ∈ r := by
        rcases List.mem_cons.1 h with h' | h'
        · exact absurd h'.symm e
        · exact h'
      rw [if_neg e, if_pos hr, List.getElem?_cons_succ]
      exact ih hr
theorem placeF_snoc_same {fs : List Mk} {q : Mk} (h : q ∉ fs) : placeF (fs ++ [q]) q = fs.length := by
  induction fs with
  | nil => simp [placeF]
  | cons p r ih =>
    rw [List.cons_append, placeF, if_neg (fun e => h (by simp [e])), if_pos (by simp), ih (fun e => h (by simp [e]))]
    simp
theorem placeF_snoc_other {fs : List Mk} {p q : Mk} (h : p ≠ q) : placeF (fs ++ [q]) p = placeF fs p := by
  induction fs with
  | nil => simp [placeF, Ne.symm h]
  | cons x r ih =>
    rw [List.cons_append, placeF, placeF, ih]
    by_cases e : x = p
    · rw [if_pos e, if_pos e]
    · rw [if_neg e, if_neg e]
      by_cases hr : p ∈ r
      · rw [if_pos hr, if_pos (by simp [hr])]
      · rw [if_neg hr, if_neg (by simp [hr, h])]

/-- The map in block b leads from the masks fs to their places. -/
def PlaceM (w : World) (b n : Nat) (fs : List Mk) : Prop :=
  ∃ D : DataW Unit, w.ownsMap Try.prog 24 (plainElem Try.prog 3) b n D ∧ ∀ p : Mk, Maps.has D p.key = decide (p ∈ fs) ∧ D.atKey p.key (.lit (.int .i64 0)) = .lit (.int .i64 (placeF fs p : Nat))
theorem PlaceM.made (w : World) : PlaceM (w.alloc (.map #[] 0)) w.heap.size 0 [] := ⟨.map [], World.ownsMap_made _ _ _ _, fun p => ⟨by simp [Maps.has], by simp [DataW.atKey, placeF]⟩⟩
theorem PlaceM.put {w' : World} {b m : Nat} {fs : List Mk} {D : DataW Unit} {q : Mk} (hm : IsMap D) (hh : ∀ p : Mk, Maps.has D p.key = decide (p ∈ fs) ∧ D.atKey p.key (.lit (.int .i64 0)) = .lit (.int .i64 (placeF fs p : Nat))) (hq : q ∉ fs) (v : Int) (hv : v = (fs.length : Int))
    (h' : w'.ownsMap Try.prog 24 (plainElem Try.prog 3) b m (D.put q.key (.lit (.int .i64 v)))) : PlaceM w' b m (fs ++ [q]) := by
  subst hv
  refine ⟨_, h', fun p => ?_⟩
  by_cases e : p = q
  · subst e
    rw [has_put_same hm (lawMask.key (key_mk p)), atKey_put_same hm (lawMask.key (key_mk p)), placeF_snoc_same hq]
    simp
  · rw [has_put_other (fun e' => e (Mk.key_inj e')), atKey_put_other (fun e' => e (Mk.key_inj e')), placeF_snoc_other e]
    exact ⟨by rw [(hh p).1]; simp [e], (hh p).2⟩
theorem PlaceM.grown {w w' : World} {b n : Nat} {fs : List Mk} {row : Option Nat} (h : PlaceM w b n fs) (hg : w.grownBy w' row) (hne : some b ≠ row) : PlaceM w' b n fs := by
  obtain ⟨D, h1, h2⟩ := h
  exact ⟨D, h1.kept hg hne, h2⟩
theorem PlaceM.alloc {w : World} {b n : Nat} {fs : List Mk} (h : PlaceM w b n fs) (o : Obj) : PlaceM (w.alloc o) b n fs := by
  obtain ⟨D, h1, h2⟩ := h
  exact ⟨D, h1.alloc o, h2⟩
theorem PlaceM.mono {w : World} {b n m : Nat} {fs : List Mk} (h : PlaceM w b n fs) (hn : n ≤ m) : PlaceM w b m fs := by
  obtain ⟨D, h1, h2⟩ := h
  exact ⟨D, h1.mono hn, h2⟩
theorem PlaceM.setCell {w : World} {b n : Nat} {fs : List Mk} (h : PlaceM w b n fs) {a : Addr} (ha : b ≠ a.block) (u : Value) : PlaceM (w.setCell a u) b n fs := by
  obtain ⟨D, h1, h2⟩ := h
  exact ⟨D, h1.setCell ha u, h2⟩
theorem zeroInt (w : World) : (zeroValue 3).run Try.prog w = .ok (.int .i64 0) w := by kernel_rfl
theorem underInt : Try.prog.underlying 3 = some (.int .i64) := by kernel_rfl
/-- A look-up whose answer is known. -/
theorem wpList_lookup_known {H : Type} {P : Program} (w : World) {ops : Array Oper} {rest : List Oper} {o : Oper} {a : Act} {Q : Exit → Act → World → Prop} (hg : o.guard = none) (m x : Operand) (t : TypeId) (hop : o.op = Op.lookup t m x true)
    (k e : TypeId) (q : IntKind) (K : Keyed P k) (ht : P.underlying t = some (.map k e)) (he : P.underlying e = some (.int q)) (hz : (zeroValue e).run P w = .ok (.int q 0) w) (b n : Nat) (D : DataW H)
    (hm : a.eval m = .map (some b)) (hown : w.ownsMap P k (plainElem P e) b n D) (key : Value) (kl : Lit) (hx : a.eval x = key) (hkey : keyOf P k key = some kl) (c : Int) (hc : D.atKey kl (.lit (.int q 0)) = .lit (.int q c)) (t' : Bool) (hh : Maps.has D kl = t')
    (hK : wpList P ops Q rest (a.put o.dst (.tuple #[.int q c, .bool t'])) w) :
    wpList P ops Q (o :: rest) a w :=
  wpList_lookup_own_ok_int w hg m x t hop k e q K ht he hz b n D hm hown key kl hx hkey (fun c' hat hwc => by
    rw [hc] at hat
    injection hat with hat
    injection hat with _ hat
    subst hat
    rw [hh]
    exact hK)
end Go.Proofs.Ytnaegaeicdknbaa
