import Derived.Lib.SliceRun
import Derived.Test.YtjmkecaljkcoiaaGreatDoorQViewD
import Derived.Maps.AppendAt
import Derived.Test.YtjmkecaljkcoiaaGreatDoorQRowE
import Derived.Test.YtjmkecaljkcoiaaGreatDoorQFlow
import Derived.Test.YtjmkecaljkcoiaaGreatDoorQFlowA
namespace Go.Proofs.YtjmkecaljkcoiaaGreatDoor
open Go.RowKit Go.Maps
set_option linter.unusedVariables false
set_option linter.unusedSimpArgs false
def ClonesP {α : Type} (T : TypeId) (enc : α → List Value) (k : Nat) (w : World) (n : Nat) (l : List α) (e : Ending) (w' : World) : Prop := ∃ A' c', e = .returned (.slice A' n c') ∧ OwnE T enc k w' w.heap.size (.slice A' n c') n l ∧ Below w.heap.size w w'
structure VwOwn (w : World) (base : Nat) (x : Vw) : Prop where
  ms : OwnE 44 prC 2 w base (.slice x.A x.m x.c) x.m x.l
  lv : OwnE 23 lfC 1 w base (.slice x.B x.d x.e) x.d x.q
  each : ∀ y ∈ x.q, OwnE 44 prC 2 w base (.slice y.A y.m y.c) y.m y.l
  dr : OwnE 44 prC 2 w base (.slice x.C x.f x.g) x.f x.r
theorem VwOwn.later {w w' : World} {base : Nat} {x : Vw} (h : VwOwn w base x) (hb : Below w.heap.size w w') : VwOwn w' base x := ⟨OwnE.later h.ms hb, OwnE.later h.lv hb, fun y hy => OwnE.later (h.each y hy) hb, OwnE.later h.dr hb⟩
theorem VwOwn.mono {w : World} {base base' : Nat} {x : Vw} (h : VwOwn w base x) (hb : base' ≤ base) : VwOwn w base' x := ⟨OwnE.mono h.ms hb, OwnE.mono h.lv hb, fun y hy => OwnE.mono (h.each y hy) hb, OwnE.mono h.dr hb⟩
theorem VwOwn.in_ {w : World} {base : Nat} {x : Vw} (h : VwOwn w base x) (hid : x.id < 18446744073709551616) : VwIn w w.heap.size x :=
  ⟨hid, OwnE.es prOk h.ms, (OwnE.cap h.ms).1, (OwnE.cap h.ms).2, OwnE.es lfOk h.lv, (OwnE.cap h.lv).1, (OwnE.cap h.lv).2, fun y hy => ⟨OwnE.es prOk (h.each y hy), (OwnE.cap (h.each y hy)).1, (OwnE.cap (h.each y hy)).2⟩, OwnE.es prOk h.dr, (OwnE.cap h.dr).1, (OwnE.cap h.dr).2⟩
theorem OwnE.unlike {α β : Type} {enc : α → List Value} {enc' : β → List Value} {k k' : Nat} {T T' : TypeId} {w : World} {base base' g n n' c : Nat} {v : Value} {l : List α} {l' : List β}
    (h : OwnE T enc k w base (.slice (some ⟨g, 0, none⟩) n c) n l) (h' : OwnE T' enc' k' w base' v n' l') (hT : T ≠ T') : v.ownBlock = none ∨ v.ownBlock ≠ some g := by
  rcases h'.2 with ⟨rfl, _⟩ | ⟨g', cap', cur', rfl, _, hg', _⟩
  · exact .inl rfl
  · right
    intro e
    have e2 : g' = g := by simpa [Value.ownBlock] using e
    subst e2
    rcases h.2 with ⟨hv, _⟩ | ⟨g2, cap, cur, hv, _, hg, _⟩
    · cases hv
    · injection hv with h1
      injection h1 with h1
      injection h1 with h1
      subst h1
      rw [hg'] at hg
      injection hg with hg
      injection hg with _ h2
      exact hT h2.symm
theorem VAt.set1 {w : World} {b : Nat} {x : Vw} (h : VAt w b x) (A : Option Addr) (m c : Nat) (l : List Pr) : VAt (w.setCell ⟨b, 1, none⟩ (.slice A m c)) b ⟨x.id, A, m, c, l, x.B, x.d, x.e, x.q, x.C, x.f, x.g, x.r⟩ := heap_setCell_same w b 1 _ _ _ h
theorem VAt.fz {w : World} {b : Nat} {x : Vw} (h : VAt w b x) (j : Nat) : w.frozen? ⟨b, j, none⟩ = false := frozen_of_row w b j _ _ h
theorem VAt.far {w : World} {b : Nat} {x : Vw} (h : VAt w b x) {a : Addr} (u : Value) (ha : b ≠ a.block) : VAt (w.setCell a u) b x := (heap_setCell_other w a b u ha).trans h
theorem OwnE.unlikeV {α β : Type} {enc : α → List Value} {enc' : β → List Value} {k k' : Nat} {T T' : TypeId} {w : World} {base base' n n' : Nat} {v v' : Value} {l : List α} {l' : List β}
    (h : OwnE T enc k w base v n l) (h' : OwnE T' enc' k' w base' v' n' l') (hT : T ≠ T') : v'.ownBlock = none ∨ v'.ownBlock ≠ v.ownBlock := by
  have h0 := h
  rcases h.2 with ⟨rfl, rfl⟩ | ⟨g, cap, cur, rfl, _⟩
  · by_cases e : v'.ownBlock = none
    · exact .inl e
    · exact .inr fun e2 => e e2
  · exact OwnE.unlike h0 h' hT
theorem OwnE.kept_by {α β : Type} {enc : α → List Value} {enc' : β → List Value} {k k' : Nat} {T T' : TypeId} {w w' : World} {base base' n n' : Nat} {v v' : Value} {l : List α} {l' : List β}
    (h : OwnE T enc k w base v n l) (h' : OwnE T' enc' k' w base' v' n' l') (hT : T ≠ T') (hg : w.grownBy w' v.ownBlock) : OwnE T' enc' k' w' base' v' n' l' := World.ownsRow.kept h' hg (OwnE.unlikeV h h' hT)
theorem VwOwn.kept_by {w w' : World} {base base' n : Nat} {v : Value} {l : List Vw} {y : Vw} (hy : VwOwn w base' y) (h : OwnE 26 vwC 4 w base v n l) (hg : w.grownBy w' v.ownBlock) : VwOwn w' base' y :=
  ⟨OwnE.kept_by h hy.ms (by decide) hg, OwnE.kept_by h hy.lv (by decide) hg, fun u hu => OwnE.kept_by h (hy.each u hu) (by decide) hg, OwnE.kept_by h hy.dr (by decide) hg⟩
end Go.Proofs.YtjmkecaljkcoiaaGreatDoor
namespace Go.Proofs.YtjmkecaljkcoiaaGreatDoor
open Go.RowKit
set_option linter.unusedVariables false
section
variable {α : Type} {enc : α → List Value} {k : Nat}
theorem ec_set (h : EncOk enc k) (L : List α) (j i : Nat) (y : α) (u : Value) (hj : j < L.length) (hi : i < k) (he : enc y = (enc L[j]).set i u) : ec enc (L.set j y) = (ec enc L).set (j * k + i) u := by
  induction L generalizing j with
  | nil => simp at hj
  | cons x L ih =>
    cases j with
    | zero =>
      rw [List.set_cons_zero, ec_cons, ec_cons, Nat.zero_mul, Nat.zero_add, List.set_append_left _ _ (by rw [h.len]; exact hi)]
      rw [he]; rfl
    | succ j =>
      rw [List.set_cons_succ, ec_cons, ec_cons, ih j (by simpa using hj) (by simpa using he), List.set_append_right _ _ (by rw [h.len, Nat.add_mul]; omega), h.len]
      congr 2
      rw [Nat.add_mul]; omega
variable {w : World} {T : TypeId} {base n c g : Nat} {L : List α}
theorem OwnE.stored (H : EncOk enc k) (h : OwnE T enc k w base (.slice (some ⟨g, 0, none⟩) n c) n L) {j i : Nat} {y : α} {u : Value} (hj : j < L.length) (hi : i < k) (he : enc y = (enc L[j]).set i u) :
    OwnE T enc k (w.setCell ⟨g, j * k + i, none⟩ u) base (.slice (some ⟨g, 0, none⟩) n c) n (L.set j y) := by
  have := (World.ownsRow.stored h (j * k + i) u).1
  unfold OwnE
  rw [ec_set H L j i y u hj hi he]
  exact this
theorem OwnE.form {A : Option Addr} (h : OwnE T enc k w base (.slice A n c) n L) (hn : 0 < n) : ∃ g, A = some ⟨g, 0, none⟩ ∧ base ≤ g ∧ g < w.heap.size := by
  rcases h.2 with ⟨_, h0⟩ | ⟨g, cap, cur, hv, hb, hg, _⟩
  · omega
  · injection hv with h1
    exact ⟨g, h1, hb, (Array.getElem?_eq_some_iff.1 hg).1⟩
end
end Go.Proofs.YtjmkecaljkcoiaaGreatDoor
namespace Go.Proofs.YtjmkecaljkcoiaaGreatDoor
open Go.RowKit Go.Maps
set_option linter.unusedVariables false
set_option linter.unusedSimpArgs false
def OwnV {α : Type} (T : TypeId) (enc : α → List Value) (k base n : Nat) (l : List α) (v : Value) (w : World) : Prop := ∃ A c, v = .slice A n c ∧ OwnE T enc k w base (.slice A n c) n l
structure ClTo (w : World) (base : Nat) (q q' : List Lf) (k : Nat) : Prop where
  len : q'.length = q.length
  own : ∀ j (h : j < q'.length) (h2 : j < q.length), j < k → OwnE 44 prC 2 w base (.slice q'[j].A q'[j].m q'[j].c) q'[j].m q'[j].l ∧ q'[j].l = q[j].l ∧ q'[j].m = q[j].m
  rest : ∀ j (h : j < q'.length) (h2 : j < q.length), k ≤ j → q'[j] = q[j]
theorem ClTo.start (w : World) (base : Nat) (q : List Lf) : ClTo w base q q 0 := ⟨rfl, fun j h h2 hj => by omega, fun j h h2 hj => rfl⟩
theorem ClTo.later {w w' : World} {base : Nat} {q q' : List Lf} {k : Nat} (h : ClTo w base q q' k) (hb : Below w.heap.size w w') : ClTo w' base q q' k :=
  ⟨h.len, fun j h1 h2 hj => ⟨OwnE.later (h.own j h1 h2 hj).1 hb, (h.own j h1 h2 hj).2⟩, h.rest⟩
theorem ClTo.step {w w' : World} {base : Nat} {q q' : List Lf} {k : Nat} {y : Lf} (h : ClTo w base q q' k) (hk : k < q.length) (hy : OwnE 44 prC 2 w' base (.slice y.A y.m y.c) y.m y.l) (hl : y.l = q[k].l) (hm : y.m = q[k].m)
    (hw : ∀ (v : Value) (n : Nat) (l : List Pr), OwnE 44 prC 2 w base v n l → OwnE 44 prC 2 w' base v n l) : ClTo w' base q (q'.set k y) (k + 1) := by
  refine ⟨by rw [List.length_set]; exact h.len, fun j h1 h2 hj => ?_, fun j h1 h2 hj => ?_⟩
  · rw [List.length_set] at h1
    by_cases e : j = k
    · subst e
      rw [List.getElem_set_self]
      exact ⟨hy, hl, hm⟩
    · rw [List.getElem_set_ne (fun e' => e e'.symm)]
      have := h.own j h1 h2 (by omega)
      exact ⟨hw _ _ _ this.1, this.2⟩
  · rw [List.length_set] at h1
    rw [List.getElem_set_ne (by omega)]
    exact h.rest j h1 h2 (by omega)
theorem ClTo.done {w : World} {base : Nat} {q q' : List Lf} {k : Nat} (h : ClTo w base q q' k) (hk : q.length ≤ k) : (∀ y ∈ q', OwnE 44 prC 2 w base (.slice y.A y.m y.c) y.m y.l) ∧ q'.map Lf.l = q.map Lf.l ∧ q'.map Lf.m = q.map Lf.m := by
  refine ⟨fun y hy => ?_, ?_, ?_⟩
  · obtain ⟨j, hj, rfl⟩ := List.mem_iff_getElem.1 hy
    exact (h.own j hj (by rw [← h.len]; exact hj) (by rw [h.len] at hj; omega)).1
  · apply List.ext_getElem
    · simp [h.len]
    · intro j h1 h2
      simp only [List.getElem_map]
      rw [List.length_map] at h1 h2
      exact (h.own j h1 h2 (by omega)).2.1
  · apply List.ext_getElem
    · simp [h.len]
    · intro j h1 h2
      simp only [List.getElem_map]
      rw [List.length_map] at h1 h2
      exact (h.own j h1 h2 (by omega)).2.2
def CopyP (w : World) (x : Vw) (e : Ending) (w' : World) : Prop := ∃ y : Vw, e = .returned (.agg #[.int .u64 y.id, .slice y.A y.m y.c, .slice y.B y.d y.e, .slice y.C y.f y.g]) ∧ y.v = x.v ∧ y.m = x.m ∧ y.d = x.d ∧ y.f = x.f ∧ y.q.map Lf.m = x.q.map Lf.m ∧ VwOwn w' w.heap.size y ∧ Below w.heap.size w w'
def put4 (w : World) (b : Nat) (y : Vw) : World := (((w.setCell ⟨b, 0, none⟩ (.int .u64 y.id)).setCell ⟨b, 1, none⟩ (.slice y.A y.m y.c)).setCell ⟨b, 2, none⟩ (.slice y.B y.d y.e)).setCell ⟨b, 3, none⟩ (.slice y.C y.f y.g)
theorem VAt.put {w : World} {b : Nat} {x : Vw} (h : VAt w b x) (y : Vw) : VAt (put4 w b y) b y := by
  have h1 := heap_setCell_same w b 0 _ _ (.int .u64 y.id) h
  have h2 := heap_setCell_same _ b 1 _ _ (.slice y.A y.m y.c) h1
  have h3 := heap_setCell_same _ b 2 _ _ (.slice y.B y.d y.e) h2
  exact heap_setCell_same _ b 3 _ _ (.slice y.C y.f y.g) h3
def zeroX : Vw := ⟨0, none, 0, 0, [], none, 0, 0, [], none, 0, 0, []⟩
theorem zeroX_own (w : World) (base : Nat) : VwOwn w base zeroX := ⟨OwnE.nil_ _ _, OwnE.nil_ _ _, fun y hy => by simp [zeroX] at hy, OwnE.nil_ _ _⟩
end Go.Proofs.YtjmkecaljkcoiaaGreatDoor
