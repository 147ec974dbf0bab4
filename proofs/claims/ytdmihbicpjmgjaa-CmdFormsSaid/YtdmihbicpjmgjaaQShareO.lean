/-
  Layer 8: clones of rows; views of the call's own.
-/
import Derived.Lib.SliceRun
import Derived.Test.YtdmihbicpjmgjaaQViewA
import Derived.Maps.AppendAt
import Derived.Test.YtdmihbicpjmgjaaQRowE
namespace Go.Proofs.Ytdmihbicpjmgjaa
open Go.RowKit Go.Maps
set_option linter.unusedVariables false
set_option linter.unusedSimpArgs false

theorem info_leaf8 : (Try.prog.info? 28).map (fun i => (i.zero, i.size, i.bytes)) = some (some (.slice none 0 0), 1, 24) := by kernel_rfl
theorem ownE_lit {α : Type} (enc : α → List Value) (k : Nat) (T : TypeId) (w : World) : OwnE T enc k (w.alloc (.cells #[] T)) w.heap.size (.slice (some ⟨w.heap.size, 0, none⟩) 0 0) 0 [] :=
  ⟨by simp [ec], .inr ⟨w.heap.size, 0, #[], rfl, Nat.le_refl _, heap_alloc_new w _, Nat.le_refl _, by decide, by simp, by simp [ec]⟩⟩
/-- What a clone is. -/
def ClonesP {α : Type} (T : TypeId) (enc : α → List Value) (k : Nat) (w : World) (n : Nat) (l : List α) (e : Ending) (w' : World) : Prop := ∃ A' c', e = .returned (.slice A' n c') ∧ OwnE T enc k w' w.heap.size (.slice A' n c') n l ∧ Below w.heap.size w w'
set_option maxRecDepth 100000 in
theorem clonep_any (A : Option Addr) (n c : Nat) (l : List Pr) (B : Nat) (w : World) (hA : Es prC w B A n l) (hB : B ≤ w.heap.size) (hn : n ≤ 1000000) :
    Calls Try.prog 78 #[.slice A n c] w (ClonesP 25 prC 2 w n l) := by
  have q := fun (w : World) (a : Option Addr) (n c n' c' : Nat) => Lib.run_eql_slice_nil (P := Try.prog) w 28 _ a n c n' c' Try.underlying28
  obtain ⟨i0, hi, hz0, hz1, hz2⟩ := info_partsV info_pid
  rcases A with _ | ad
  · have hm : n = 0 := by
      by_cases h : 0 < n
      · obtain ⟨ad, e, _⟩ := hA.2 h
        cases e
      · omega
    subst hm
    obtain rfl : l = [] := List.eq_nil_of_length_eq_zero hA.len
    go_enter Try.func78, Try.ntmps78
    go_wp2
    go_ret
    exact ⟨_, _, rfl, OwnE.nil_ _ _, Below.refl _ _⟩
  · have ho := ownE_lit prC 2 25 w
    have hb := (Below.refl w.heap.size w).alloc (Nat.le_refl _) (.cells #[] 25)
    go_enter Try.func78, Try.ntmps78
    go_wp2_with (at_builtin; refine wp_append_e _ rfl (.tmp 5) (.tmp 6) 28 rfl 25 i0 _ 8 Try.underlying28 hi hz0 hz1 hz2 rfl prOk w.heap.size 0 _ [] rfl ho B _ n _ l rfl (hA.alloc hB _) (by unfold maxLen; omega) (by omega) w.heap.size w hb (Nat.le_refl _) (by simp) ?_; intro A' c' w' hO hb hsz _; refine Hid.out ?_)
    refine Lib.hid ?_
    simp only [Nat.zero_add, List.nil_append] at hO
    have HH := hide (And.intro hO hb)
    go_wp2
    go_ret
    exact ⟨_, _, by first | rfl | simp, HH.out.1, HH.out.2⟩
set_option maxRecDepth 100000 in
theorem clonel_any (A : Option Addr) (n c : Nat) (l : List Lf) (B : Nat) (w : World) (hA : Es lfC w B A n l) (hB : B ≤ w.heap.size) (hn : n ≤ 1000000) :
    Calls Try.prog 79 #[.slice A n c] w (ClonesP 28 lfC 1 w n l) := by
  have q := fun (w : World) (a : Option Addr) (n c n' c' : Nat) => Lib.run_eql_slice_nil (P := Try.prog) w 29 _ a n c n' c' Try.underlying29
  obtain ⟨i0, hi, hz0, hz1, hz2⟩ := info_partsV info_leaf8
  rcases A with _ | ad
  · have hm : n = 0 := by
      by_cases h : 0 < n
      · obtain ⟨ad, e, _⟩ := hA.2 h
        cases e
      · omega
    subst hm
    obtain rfl : l = [] := List.eq_nil_of_length_eq_zero hA.len
    go_enter Try.func79, Try.ntmps79
    go_wp2
    go_ret
    exact ⟨_, _, rfl, OwnE.nil_ _ _, Below.refl _ _⟩
  · have ho := ownE_lit lfC 1 28 w
    have hb := (Below.refl w.heap.size w).alloc (Nat.le_refl _) (.cells #[] 28)
    go_enter Try.func79, Try.ntmps79
    go_wp2_with (at_builtin; refine wp_append_e _ rfl (.tmp 5) (.tmp 6) 29 rfl 28 i0 _ 24 Try.underlying29 hi hz0 hz1 hz2 rfl lfOk w.heap.size 0 _ [] rfl ho B _ n _ l rfl (hA.alloc hB _) (by unfold maxLen; omega) (by omega) w.heap.size w hb (Nat.le_refl _) (by simp) ?_; intro A' c' w' hO hb hsz _; refine Hid.out ?_)
    refine Lib.hid ?_
    simp only [Nat.zero_add, List.nil_append] at hO
    have HH := hide (And.intro hO hb)
    go_wp2
    go_ret
    exact ⟨_, _, by first | rfl | simp, HH.out.1, HH.out.2⟩

/-- A view of the call's own. -/
structure VwOwn (w : World) (base : Nat) (x : Vw) : Prop where
  ms : OwnE 25 prC 2 w base (.slice x.A x.m x.c) x.m x.l
  lv : OwnE 28 lfC 1 w base (.slice x.B x.d x.e) x.d x.q
  each : ∀ y ∈ x.q, OwnE 25 prC 2 w base (.slice y.A y.m y.c) y.m y.l
  dr : OwnE 25 prC 2 w base (.slice x.C x.f x.g) x.f x.r
theorem VwOwn.later {w w' : World} {base : Nat} {x : Vw} (h : VwOwn w base x) (hb : Below w.heap.size w w') : VwOwn w' base x := ⟨OwnE.later h.ms hb, OwnE.later h.lv hb, fun y hy => OwnE.later (h.each y hy) hb, OwnE.later h.dr hb⟩
theorem VwOwn.mono {w : World} {base base' : Nat} {x : Vw} (h : VwOwn w base x) (hb : base' ≤ base) : VwOwn w base' x := ⟨OwnE.mono h.ms hb, OwnE.mono h.lv hb, fun y hy => OwnE.mono (h.each y hy) hb, OwnE.mono h.dr hb⟩
theorem VwOwn.in_ {w : World} {base : Nat} {x : Vw} (h : VwOwn w base x) (hid : x.id < 18446744073709551616) : VwIn w w.heap.size x :=
  ⟨hid, OwnE.es prOk h.ms, (OwnE.cap h.ms).1, (OwnE.cap h.ms).2, OwnE.es lfOk h.lv, (OwnE.cap h.lv).1, (OwnE.cap h.lv).2, fun y hy => ⟨OwnE.es prOk (h.each y hy), (OwnE.cap (h.each y hy)).1, (OwnE.cap (h.each y hy)).2⟩, OwnE.es prOk h.dr, (OwnE.cap h.dr).1, (OwnE.cap h.dr).2⟩
/-- Rows of unlike kinds lie in unlike blocks. -/
theorem OwnE.unlike {α β : Type} {enc : α → List Value} {enc' : β → List Value} {k k' : Nat} {T T' : TypeId} {w : World} {base base' g n n' c : Nat} {v : Value} {l : List α} {l' : List β}
    (h : OwnE T enc k w base (.slice (some ⟨g, 0, none⟩) n c) n l) (h' : OwnE T' enc' k' w base' v n' l') (hT : T ≠ T') : v.ownBlock = none ∨ v.ownBlock ≠ some g := by
  rcases h'.2 with ⟨rfl, _⟩ | ⟨g', cap', cur', rfl, _, hg', _⟩
  · exact .inl rfl
  · right
    intro e
    have e2 : g' = g := by simpa [Value.ownBlock] using e
    subst e2
    rcases h.2 with ⟨hv, _⟩ | ⟨g2, cap, cur, hv, _, hg, _⟩
    · cases hv
    · injection hv with h1
      injection h1 with h1
      injection h1 with h1
      subst h1
      rw [hg'] at hg
      injection hg with hg
      injection hg with _ h2
      exact hT h2.symm
theorem OwnE.set_other {α : Type} {enc : α → List Value} {k : Nat} {T : TypeId} {w : World} {base n : Nat} {v : Value} {l : List α} (h : OwnE T enc k w base v n l) {a : Addr} (u : Value) (ha : v.ownBlock = none ∨ v.ownBlock ≠ some a.block) : OwnE T enc k (w.setCell a u) base v n l :=
  World.ownsRow.kept h (grown_set w a u) ha
theorem VAt.set1 {w : World} {b : Nat} {x : Vw} (h : VAt w b x) (A : Option Addr) (m c : Nat) (l : List Pr) : VAt (w.setCell ⟨b, 1, none⟩ (.slice A m c)) b ⟨x.id, A, m, c, l, x.B, x.d, x.e, x.q, x.C, x.f, x.g, x.r⟩ := heap_setCell_same w b 1 _ _ _ h
theorem VAt.set2 {w : World} {b : Nat} {x : Vw} (h : VAt w b x) (A : Option Addr) (m c : Nat) (l : List Lf) : VAt (w.setCell ⟨b, 2, none⟩ (.slice A m c)) b ⟨x.id, x.A, x.m, x.c, x.l, A, m, c, l, x.C, x.f, x.g, x.r⟩ := heap_setCell_same w b 2 _ _ _ h
theorem VAt.set3 {w : World} {b : Nat} {x : Vw} (h : VAt w b x) (A : Option Addr) (m c : Nat) (l : List Pr) : VAt (w.setCell ⟨b, 3, none⟩ (.slice A m c)) b ⟨x.id, x.A, x.m, x.c, x.l, x.B, x.d, x.e, x.q, A, m, c, l⟩ := heap_setCell_same w b 3 _ _ _ h
theorem VAt.fz {w : World} {b : Nat} {x : Vw} (h : VAt w b x) (j : Nat) : w.frozen? ⟨b, j, none⟩ = false := frozen_of_row w b j _ _ h
theorem VAt.far {w : World} {b : Nat} {x : Vw} (h : VAt w b x) {a : Addr} (u : Value) (ha : b ≠ a.block) : VAt (w.setCell a u) b x := (heap_setCell_other w a b u ha).trans h
theorem OwnE.unlikeV {α β : Type} {enc : α → List Value} {enc' : β → List Value} {k k' : Nat} {T T' : TypeId} {w : World} {base base' n n' : Nat} {v v' : Value} {l : List α} {l' : List β}
    (h : OwnE T enc k w base v n l) (h' : OwnE T' enc' k' w base' v' n' l') (hT : T ≠ T') : v'.ownBlock = none ∨ v'.ownBlock ≠ v.ownBlock := by
  have h0 := h
  rcases h.2 with ⟨rfl, rfl⟩ | ⟨g, cap, cur, rfl, _⟩
  · by_cases e : v'.ownBlock = none
    · exact .inl e
    · exact .inr fun e2 => e e2
  · exact OwnE.unlike h0 h' hT
theorem OwnE.kept_by {α β : Type} {enc : α → List Value} {enc' : β → List Value} {k k' : Nat} {T T' : TypeId} {w w' : World} {base base' n n' : Nat} {v v' : Value} {l : List α} {l' : List β}
    (h : OwnE T enc k w base v n l) (h' : OwnE T' enc' k' w base' v' n' l') (hT : T ≠ T') (hg : w.grownBy w' v.ownBlock) : OwnE T' enc' k' w' base' v' n' l' := World.ownsRow.kept h' hg (OwnE.unlikeV h h' hT)
theorem VwOwn.kept_by {w w' : World} {base base' n : Nat} {v : Value} {l : List Vw} {y : Vw} (hy : VwOwn w base' y) (h : OwnE 31 vwC 4 w base v n l) (hg : w.grownBy w' v.ownBlock) : VwOwn w' base' y :=
  ⟨OwnE.kept_by h hy.ms (by decide) hg, OwnE.kept_by h hy.lv (by decide) hg, fun u hu => OwnE.kept_by h (hy.each u hu) (by decide) hg, OwnE.kept_by h hy.dr (by decide) hg⟩
end Go.Proofs.Ytdmihbicpjmgjaa
namespace Go.Proofs.Ytdmihbicpjmgjaa
open Go.RowKit
set_option linter.unusedVariables false

section
variable {α : Type} {enc : α → List Value} {k : Nat}
theorem ec_set (h : EncOk enc k) (L : List α) (j i : Nat) (y : α) (u : Value) (hj : j < L.length) (hi : i < k) (he : enc y = (enc L[j]).set i u) : ec enc (L.set j y) = (ec enc L).set (j * k + i) u := by
  induction L generalizing j with
  | nil => simp at hj
  | cons x L ih =>
    cases j with
    | zero =>
      rw [List.set_cons_zero, ec_cons, ec_cons, Nat.zero_mul, Nat.zero_add, List.set_append_left _ _ (by rw [h.len]; exact hi)]
      rw [he]; rfl
    | succ j =>
      rw [List.set_cons_succ, ec_cons, ec_cons, ih j (by simpa using hj) (by simpa using he), List.set_append_right _ _ (by rw [h.len, Nat.add_mul]; omega), h.len]
      congr 2
      rw [Nat.add_mul]; omega
variable {w : World} {T : TypeId} {base n c g : Nat} {L : List α}
theorem OwnE.stored (H : EncOk enc k) (h : OwnE T enc k w base (.slice (some ⟨g, 0, none⟩) n c) n L) {j i : Nat} {y : α} {u : Value} (hj : j < L.length) (hi : i < k) (he : enc y = (enc L[j]).set i u) :
    OwnE T enc k (w.setCell ⟨g, j * k + i, none⟩ u) base (.slice (some ⟨g, 0, none⟩) n c) n (L.set j y) := by
  have := (World.ownsRow.stored h (j * k + i) u).1
  unfold OwnE
  rw [ec_set H L j i y u hj hi he]
  exact this
theorem OwnE.cell_ (H : EncOk enc k) (h : OwnE T enc k w base (.slice (some ⟨g, 0, none⟩) n c) n L) {j i : Nat} {v : Value} (hj : j < L.length) (hi : i < k) (hv : (enc L[j])[i]? = some v) : w.cell? ⟨g, j * k + i, none⟩ = some v := by
  have hl := h.len H
  have hlt : j * k + i < n * k := by
    have : (j + 1) * k ≤ n * k := Nat.mul_le_mul_right k (by omega)
    rw [Nat.add_mul] at this
    omega
  rw [World.ownsRow.cellAt h (j * k + i) hlt]
  exact ec_at H hj hv
theorem OwnE.fz_ (h : OwnE T enc k w base (.slice (some ⟨g, 0, none⟩) n c) n L) (j : Nat) : w.frozen? ⟨g, j, none⟩ = false := World.ownsRow.frozenAt h j
theorem OwnE.form {A : Option Addr} (h : OwnE T enc k w base (.slice A n c) n L) (hn : 0 < n) : ∃ g, A = some ⟨g, 0, none⟩ ∧ base ≤ g ∧ g < w.heap.size := by
  rcases h.2 with ⟨_, h0⟩ | ⟨g, cap, cur, hv, hb, hg, _⟩
  · omega
  · injection hv with h1
    exact ⟨g, h1, hb, (Array.getElem?_eq_some_iff.1 hg).1⟩
end
end Go.Proofs.Ytdmihbicpjmgjaa
