import Derived.Lib.SliceRun
import Derived.Test.YtjmkecaljkcoiaaGreatDoorQViewD
import Derived.Maps.AppendAt
import Derived.Test.YtjmkecaljkcoiaaGreatDoorQRowE
import Derived.Test.YtjmkecaljkcoiaaGreatDoorQFlow
import Derived.Test.YtjmkecaljkcoiaaGreatDoorQFlowA
import Derived.Test.YtjmkecaljkcoiaaGreatDoorQCmd1
namespace Go.Proofs.YtjmkecaljkcoiaaGreatDoor
open Go.RowKit Go.Maps
set_option linter.unusedVariables false
set_option linter.unusedSimpArgs false
theorem info_leaf8 : (Tryz.prog.info? 23).map (fun i => (i.zero, i.size, i.bytes)) = some (some (.slice none 0 0), 1, 24) := by kernel_rfl
def ClonesP {α : Type} (T : TypeId) (enc : α → List Value) (k : Nat) (w : World) (n : Nat) (l : List α) (e : Ending) (w' : World) : Prop := ∃ A' c', e = .returned (.slice A' n c') ∧ OwnE T enc k w' w.heap.size (.slice A' n c') n l ∧ Below w.heap.size w w'
structure VwOwn (w : World) (base : Nat) (x : Vw) : Prop where
  ms : OwnE 44 prC 2 w base (.slice x.A x.m x.c) x.m x.l
  lv : OwnE 23 lfC 1 w base (.slice x.B x.d x.e) x.d x.q
  each : ∀ y ∈ x.q, OwnE 44 prC 2 w base (.slice y.A y.m y.c) y.m y.l
  dr : OwnE 44 prC 2 w base (.slice x.C x.f x.g) x.f x.r
theorem VwOwn.later {w w' : World} {base : Nat} {x : Vw} (h : VwOwn w base x) (hb : Below w.heap.size w w') : VwOwn w' base x := ⟨OwnE.later h.ms hb, OwnE.later h.lv hb, fun y hy => OwnE.later (h.each y hy) hb, OwnE.later h.dr hb⟩
theorem VwOwn.mono {w : World} {base base' : Nat} {x : Vw} (h : VwOwn w base x) (hb : base' ≤ base) : VwOwn w base' x := ⟨OwnE.mono h.ms hb, OwnE.mono h.lv hb, fun y hy => OwnE.mono (h.each y hy) hb, OwnE.mono h.dr hb⟩
theorem VwOwn.in_ {w : World} {base : Nat} {x : Vw} (h : VwOwn w base x) (hid : x.id < 18446744073709551616) : VwIn w w.heap.size x :=
  ⟨hid, OwnE.es prOk h.ms, (OwnE.cap h.ms).1, (OwnE.cap h.ms).2, OwnE.es lfOk h.lv, (OwnE.cap h.lv).1, (OwnE.cap h.lv).2, fun y hy => ⟨OwnE.es prOk (h.each y hy), (OwnE.cap (h.each y hy)).1, (OwnE.cap (h.each y hy)).2⟩, OwnE.es prOk h.dr, (OwnE.cap h.dr).1, (OwnE.cap h.dr).2⟩
theorem OwnE.unlike {α β : Type} {enc : α → List Value} {enc' : β → List Value} {k k' : Nat} {T T' : TypeId} {w : World} {base base' g n n' c : Nat} {v : Value} {l : List α} {l' : List β}
    (h : OwnE T enc k w base (.slice (some ⟨g, 0, none⟩) n c) n l) (h' : OwnE T' enc' k' w base' v n' l') (hT : T ≠ T') : v.ownBlock = none ∨ v.ownBlock ≠ some g := by
  rcases h'.2 with ⟨rfl, _⟩ | ⟨g', cap', cur', rfl, _, hg', _⟩
  · exact .inl rfl
  · right
    intro e
    have e2 : g' = g := by simpa [Value.ownBlock] using e
    subst e2
    rcases h.2 with ⟨hv, _⟩ | ⟨g2, cap, cur, hv, _, hg, _⟩
    · cases hv
    · injection hv with h1
      injection h1 with h1
      injection h1 with h1
      subst h1
      rw [hg'] at hg
      injection hg with hg
      injection hg with _ h2
      exact hT h2.symm
theorem VAt.set1 {w : World} {b : Nat} {x : Vw} (h : VAt w b x) (A : Option Addr) (m c : Nat) (l : List Pr) : VAt (w.setCell ⟨b, 1, none⟩ (.slice A m c)) b ⟨x.id, A, m, c, l, x.B, x.d, x.e, x.q, x.C, x.f, x.g, x.r⟩ := heap_setCell_same w b 1 _ _ _ h
theorem VAt.set2 {w : World} {b : Nat} {x : Vw} (h : VAt w b x) (A : Option Addr) (m c : Nat) (l : List Lf) : VAt (w.setCell ⟨b, 2, none⟩ (.slice A m c)) b ⟨x.id, x.A, x.m, x.c, x.l, A, m, c, l, x.C, x.f, x.g, x.r⟩ := heap_setCell_same w b 2 _ _ _ h
theorem VAt.set3 {w : World} {b : Nat} {x : Vw} (h : VAt w b x) (A : Option Addr) (m c : Nat) (l : List Pr) : VAt (w.setCell ⟨b, 3, none⟩ (.slice A m c)) b ⟨x.id, x.A, x.m, x.c, x.l, x.B, x.d, x.e, x.q, A, m, c, l⟩ := heap_setCell_same w b 3 _ _ _ h
theorem VAt.fz {w : World} {b : Nat} {x : Vw} (h : VAt w b x) (j : Nat) : w.frozen? ⟨b, j, none⟩ = false := frozen_of_row w b j _ _ h
theorem VAt.far {w : World} {b : Nat} {x : Vw} (h : VAt w b x) {a : Addr} (u : Value) (ha : b ≠ a.block) : VAt (w.setCell a u) b x := (heap_setCell_other w a b u ha).trans h
theorem OwnE.unlikeV {α β : Type} {enc : α → List Value} {enc' : β → List Value} {k k' : Nat} {T T' : TypeId} {w : World} {base base' n n' : Nat} {v v' : Value} {l : List α} {l' : List β}
    (h : OwnE T enc k w base v n l) (h' : OwnE T' enc' k' w base' v' n' l') (hT : T ≠ T') : v'.ownBlock = none ∨ v'.ownBlock ≠ v.ownBlock := by
  have h0 := h
  rcases h.2 with ⟨rfl, rfl⟩ | ⟨g, cap, cur, rfl, _⟩
  · by_cases e : v'.ownBlock = none
    · exact .inl e
    · exact .inr fun e2 => e e2
  · exact OwnE.unlike h0 h' hT
theorem OwnE.kept_by {α β : Type} {enc : α → List Value} {enc' : β → List Value} {k k' : Nat} {T T' : TypeId} {w w' : World} {base base' n n' : Nat} {v v' : Value} {l : List α} {l' : List β}
    (h : OwnE T enc k w base v n l) (h' : OwnE T' enc' k' w base' v' n' l') (hT : T ≠ T') (hg : w.grownBy w' v.ownBlock) : OwnE T' enc' k' w' base' v' n' l' := World.ownsRow.kept h' hg (OwnE.unlikeV h h' hT)
theorem VwOwn.kept_by {w w' : World} {base base' n : Nat} {v : Value} {l : List Vw} {y : Vw} (hy : VwOwn w base' y) (h : OwnE 26 vwC 4 w base v n l) (hg : w.grownBy w' v.ownBlock) : VwOwn w' base' y :=
  ⟨OwnE.kept_by h hy.ms (by decide) hg, OwnE.kept_by h hy.lv (by decide) hg, fun u hu => OwnE.kept_by h (hy.each u hu) (by decide) hg, OwnE.kept_by h hy.dr (by decide) hg⟩
end Go.Proofs.YtjmkecaljkcoiaaGreatDoor
namespace Go.Proofs.YtjmkecaljkcoiaaGreatDoor
open Go.RowKit
set_option linter.unusedVariables false
section
variable {α : Type} {enc : α → List Value} {k : Nat}
theorem ec_set (h : EncOk enc k) (L : List α) (j i : Nat) (y : α) (u : Value) (hj : j < L.length) (hi : i < k) (he : enc y = (enc L[j]).set i u) : ec enc (L.set j y) = (ec enc L).set (j * k + i) u := by
  induction L generalizing j with
  | nil => simp at hj
  | cons x L ih =>
    cases j with
    | zero =>
      rw [List.set_cons_zero, ec_cons, ec_cons, Nat.zero_mul, Nat.zero_add, List.set_append_left _ _ (by rw [h.len]; exact hi)]
      rw [he]; rfl
    | succ j =>
      rw [List.set_cons_succ, ec_cons, ec_cons, ih j (by simpa using hj) (by simpa using he), List.set_append_right _ _ (by rw [h.len, Nat.add_mul]; omega), h.len]
      congr 2
      rw [Nat.add_mul]; omega
variable {w : World} {T : TypeId} {base n c g : Nat} {L : List α}
theorem OwnE.stored (H : EncOk enc k) (h : OwnE T enc k w base (.slice (some ⟨g, 0, none⟩) n c) n L) {j i : Nat} {y : α} {u : Value} (hj : j < L.length) (hi : i < k) (he : enc y = (enc L[j]).set i u) :
    OwnE T enc k (w.setCell ⟨g, j * k + i, none⟩ u) base (.slice (some ⟨g, 0, none⟩) n c) n (L.set j y) := by
  have := (World.ownsRow.stored h (j * k + i) u).1
  unfold OwnE
  rw [ec_set H L j i y u hj hi he]
  exact this
theorem OwnE.form {A : Option Addr} (h : OwnE T enc k w base (.slice A n c) n L) (hn : 0 < n) : ∃ g, A = some ⟨g, 0, none⟩ ∧ base ≤ g ∧ g < w.heap.size := by
  rcases h.2 with ⟨_, h0⟩ | ⟨g, cap, cur, hv, hb, hg, _⟩
  · omega
  · injection hv with h1
    exact ⟨g, h1, hb, (Array.getElem?_eq_some_iff.1 hg).1⟩
end
end Go.Proofs.YtjmkecaljkcoiaaGreatDoor
namespace Go.Proofs.YtjmkecaljkcoiaaGreatDoor
open Go.RowKit Go.Maps
set_option linter.unusedVariables false
set_option linter.unusedSimpArgs false
def OwnV {α : Type} (T : TypeId) (enc : α → List Value) (k base n : Nat) (l : List α) (v : Value) (w : World) : Prop := ∃ A c, v = .slice A n c ∧ OwnE T enc k w base (.slice A n c) n l
structure ClTo (w : World) (base : Nat) (q q' : List Lf) (k : Nat) : Prop where
  len : q'.length = q.length
  own : ∀ j (h : j < q'.length) (h2 : j < q.length), j < k → OwnE 44 prC 2 w base (.slice q'[j].A q'[j].m q'[j].c) q'[j].m q'[j].l ∧ q'[j].l = q[j].l ∧ q'[j].m = q[j].m
  rest : ∀ j (h : j < q'.length) (h2 : j < q.length), k ≤ j → q'[j] = q[j]
theorem ClTo.start (w : World) (base : Nat) (q : List Lf) : ClTo w base q q 0 := ⟨rfl, fun j h h2 hj => by omega, fun j h h2 hj => rfl⟩
theorem ClTo.later {w w' : World} {base : Nat} {q q' : List Lf} {k : Nat} (h : ClTo w base q q' k) (hb : Below w.heap.size w w') : ClTo w' base q q' k :=
  ⟨h.len, fun j h1 h2 hj => ⟨OwnE.later (h.own j h1 h2 hj).1 hb, (h.own j h1 h2 hj).2⟩, h.rest⟩
theorem ClTo.step {w w' : World} {base : Nat} {q q' : List Lf} {k : Nat} {y : Lf} (h : ClTo w base q q' k) (hk : k < q.length) (hy : OwnE 44 prC 2 w' base (.slice y.A y.m y.c) y.m y.l) (hl : y.l = q[k].l) (hm : y.m = q[k].m)
    (hw : ∀ (v : Value) (n : Nat) (l : List Pr), OwnE 44 prC 2 w base v n l → OwnE 44 prC 2 w' base v n l) : ClTo w' base q (q'.set k y) (k + 1) := by
  refine ⟨by rw [List.length_set]; exact h.len, fun j h1 h2 hj => ?_, fun j h1 h2 hj => ?_⟩
  · rw [List.length_set] at h1
    by_cases e : j = k
    · subst e
      rw [List.getElem_set_self]
      exact ⟨hy, hl, hm⟩
    · rw [List.getElem_set_ne (fun e' => e e'.symm)]
      have := h.own j h1 h2 (by omega)
      exact ⟨hw _ _ _ this.1, this.2⟩
  · rw [List.length_set] at h1
    rw [List.getElem_set_ne (by omega)]
    exact h.rest j h1 h2 (by omega)
theorem ClTo.done {w : World} {base : Nat} {q q' : List Lf} {k : Nat} (h : ClTo w base q q' k) (hk : q.length ≤ k) : (∀ y ∈ q', OwnE 44 prC 2 w base (.slice y.A y.m y.c) y.m y.l) ∧ q'.map Lf.l = q.map Lf.l ∧ q'.map Lf.m = q.map Lf.m := by
  refine ⟨fun y hy => ?_, ?_, ?_⟩
  · obtain ⟨j, hj, rfl⟩ := List.mem_iff_getElem.1 hy
    exact (h.own j hj (by rw [← h.len]; exact hj) (by rw [h.len] at hj; omega)).1
  · apply List.ext_getElem
    · simp [h.len]
    · intro j h1 h2
      simp only [List.getElem_map]
      rw [List.length_map] at h1 h2
      exact (h.own j h1 h2 (by omega)).2.1
  · apply List.ext_getElem
    · simp [h.len]
    · intro j h1 h2
      simp only [List.getElem_map]
      rw [List.length_map] at h1 h2
      exact (h.own j h1 h2 (by omega)).2.2
def CopyP (w : World) (x : Vw) (e : Ending) (w' : World) : Prop := ∃ y : Vw, e = .returned (.agg #[.int .u64 y.id, .slice y.A y.m y.c, .slice y.B y.d y.e, .slice y.C y.f y.g]) ∧ y.v = x.v ∧ y.m = x.m ∧ y.d = x.d ∧ y.f = x.f ∧ y.q.map Lf.m = x.q.map Lf.m ∧ VwOwn w' w.heap.size y ∧ Below w.heap.size w w'
def put4 (w : World) (b : Nat) (y : Vw) : World := (((w.setCell ⟨b, 0, none⟩ (.int .u64 y.id)).setCell ⟨b, 1, none⟩ (.slice y.A y.m y.c)).setCell ⟨b, 2, none⟩ (.slice y.B y.d y.e)).setCell ⟨b, 3, none⟩ (.slice y.C y.f y.g)
theorem VAt.put {w : World} {b : Nat} {x : Vw} (h : VAt w b x) (y : Vw) : VAt (put4 w b y) b y := by
  have h1 := heap_setCell_same w b 0 _ _ (.int .u64 y.id) h
  have h2 := heap_setCell_same _ b 1 _ _ (.slice y.A y.m y.c) h1
  have h3 := heap_setCell_same _ b 2 _ _ (.slice y.B y.d y.e) h2
  exact heap_setCell_same _ b 3 _ _ (.slice y.C y.f y.g) h3
def zeroX : Vw := ⟨0, none, 0, 0, [], none, 0, 0, [], none, 0, 0, []⟩
theorem zeroX_own (w : World) (base : Nat) : VwOwn w base zeroX := ⟨OwnE.nil_ _ _, OwnE.nil_ _ _, fun y hy => by simp [zeroX] at hy, OwnE.nil_ _ _⟩
end Go.Proofs.YtjmkecaljkcoiaaGreatDoor
namespace Go.Proofs.YtjmkecaljkcoiaaGreatDoor
open Go.RowKit Go.Maps
set_option linter.unusedVariables false
set_option linter.unusedSimpArgs false
theorem but1 {c : Cm} (h : c.kind = 1) : ButLen c ↔ c = zC 1 noV := by
  unfold ButLen
  rw [h]
  simp
theorem but2 {c : Cm} (h : c.kind = 2) : ButLen c ↔ mayP c.p = true ∧ cntsP c.num ∧ cntsP c.vn ∧ c.v = noV := by
  unfold ButLen
  rw [h]
  simp
theorem but3 {c : Cm} (h : c.kind = 3) : ButLen c ↔ MayV c.v ∧ c = zC 3 c.v := by
  unfold ButLen
  rw [h]
  simp
theorem but0 {c : Cm} (h1 : c.kind ≠ 1) (h2 : c.kind ≠ 2) (h3 : c.kind ≠ 3) : ¬ ButLen c := fun h => by
  rcases h.kind with h | h | h <;> contradiction
abbrev zX (k : Int) (x : Vw) : Cx := ⟨k, default, 0, 0, none, 0, 0, [], x⟩
theorem zX_in {w : World} {B : Nat} {k : Int} {x : Vw} (h0 : -9223372036854775808 ≤ k) (h1 : k ≤ 9223372036854775807) (h : VwIn w B x) : CxIn w B (zX k x) :=
  ⟨h0, h1, Nat.pos_of_ne_zero (by decide), Nat.pos_of_ne_zero (by decide), Bs.none_, Nat.le_refl _, Nat.zero_le _, h⟩
theorem zeroX_in (w : World) : VwIn w w.heap.size zeroX := (zeroX_own w 0).in_ (by decide)
theorem counts_any (n : Nat) (w : World) (t : Bool) (ht : t = true ↔ cntsP n) :
    Calls Tryz.prog 215 #[.int .u64 n] w fun e w' => e = .returned (.bool t) ∧ w = w' := by
  unfold cntsP at ht
  by_cases h0 : 1 ≤ n
  · have z0 : decide ((1 : Int) ≤ (n : Int)) = true := decide_eq_true (by omega)
    by_cases h1 : n ≤ 4611686018427387904
    · have z1 : decide ((n : Int) ≤ 4611686018427387904) = true := decide_eq_true (by omega)
      have hf : t = true := ht.2 ⟨h0, h1⟩
      have HF := hide hf
      clear ht hf h0 h1
      go_enter Tryz.func215, Tryz.ntmps215
      go_wp2
      go_ret
      exact ⟨ret_bool HF.out.symm, rfl⟩
    · have z1 : decide ((n : Int) ≤ 4611686018427387904) = false := decide_eq_false (by omega)
      have hf : t = false := not_of_iff ht (fun e => h1 e.2)
      have HF := hide hf
      clear ht hf h0 h1
      go_enter Tryz.func215, Tryz.ntmps215
      go_wp2
      go_ret
      exact ⟨ret_bool HF.out.symm, rfl⟩
  · have z0 : decide ((1 : Int) ≤ (n : Int)) = false := decide_eq_false (by omega)
    have hf : t = false := not_of_iff ht (fun e => h0 e.1)
    have HF := hide hf
    clear ht hf h0
    go_enter Tryz.func215, Tryz.ntmps215
    go_wp2
    go_ret
    exact ⟨ret_bool HF.out.symm, rfl⟩
set_option maxRecDepth 100000 in
set_option maxHeartbeats 1000000 in
theorem mbf_any (y : Cx) (B : Nat) (w : World) (t : Bool) (h : CxIn w B y) (hs : VSmall y.x) (hB : B ≤ w.heap.size) (ht : t = true ↔ ButLen y.m) :
    Calls Tryz.prog 178 #[.agg #[.int .i64 y.kind, .int .u16 y.p.i, .int .u32 y.p.k, .int .u64 y.num, .int .u64 y.vn, .slice y.A y.n y.c, .int .u64 y.x.id, .slice y.x.A y.x.m y.x.c, .slice y.x.B y.x.d y.x.e, .slice y.x.C y.x.f y.x.g]] w fun e w' => e = .returned (.bool t) ∧ Below w.heap.size w w' := by
  have hbz : Below w.heap.size w (w.alloc (.cells #[.int .i64 y.kind, .int .u16 y.p.i, .int .u32 y.p.k, .int .u64 y.num, .int .u64 y.vn, .slice y.A y.n y.c, .int .u64 y.x.id, .slice y.x.A y.x.m y.x.c, .slice y.x.B y.x.d y.x.e, .slice y.x.C y.x.f y.x.g] 48)) := (Below.refl _ _).alloc (Nat.le_refl _) _
  have v0 := CAt.mk_ w y
  have h1 := h.below (hbz.mono hB)
  have hB1 := Nat.le_trans hB hbz.size
  obtain ⟨kind, p, num, vn, A, n, c, l, xv⟩ := y
  obtain ⟨j0, j1, j2, j3, j4, j5, j6, j7, j8, j9⟩ := v0.cells
  dsimp only at *
  by_cases k1 : kind = 1
  · subst k1
    rw [but1 rfl] at ht
    have cs : Calls Tryz.prog 175 #[.agg #[.int .i64 1, .int .u16 p.i, .int .u32 p.k, .int .u64 num, .int .u64 vn, .slice A n c, .int .u64 xv.id, .slice xv.A xv.m xv.c, .slice xv.B xv.d xv.e, .slice xv.C xv.f xv.g], .agg #[.int .i64 1, .int .u16 0, .int .u32 0, .int .u64 0, .int .u64 0, .slice none 0 0, .int .u64 0, .slice none 0 0, .slice none 0 0, .slice none 0 0]] (w.alloc (.cells #[.int .i64 1, .int .u16 p.i, .int .u32 p.k, .int .u64 num, .int .u64 vn, .slice A n c, .int .u64 xv.id, .slice xv.A xv.m xv.c, .slice xv.B xv.d xv.e, .slice xv.C xv.f xv.g] 48)) (fun e w' => e = .returned (.bool t) ∧ Below (w.alloc (.cells #[.int .i64 1, .int .u16 p.i, .int .u32 p.k, .int .u64 num, .int .u64 vn, .slice A n c, .int .u64 xv.id, .slice xv.A xv.m xv.c, .slice xv.B xv.d xv.e, .slice xv.C xv.f xv.g] 48)).heap.size (w.alloc (.cells #[.int .i64 1, .int .u16 p.i, .int .u32 p.k, .int .u64 num, .int .u64 vn, .slice A n c, .int .u64 xv.id, .slice xv.A xv.m xv.c, .slice xv.B xv.d xv.e, .slice xv.C xv.f xv.g] 48)) w') :=
      csame_any ⟨1, p, num, vn, A, n, c, l, xv⟩ (zX 1 zeroX) B _ _ t h1 (zX_in (by decide) (by decide) (zeroX_in _)) hB1 (Nat.le_refl _) ht
    clear ht h h1 v0
    generalize hw1 : w.alloc (.cells #[.int .i64 1, .int .u16 p.i, .int .u32 p.k, .int .u64 num, .int .u64 vn, .slice A n c, .int .u64 xv.id, .slice xv.A xv.m xv.c, .slice xv.B xv.d xv.e, .slice xv.C xv.f xv.g] 48) = w1 at *
    go_enter Tryz.func178, Tryz.ntmps178
    go_wp2_with fail
    refine cs.mono ?_
    rintro e w2 ⟨rfl, hb⟩
    have hb2 := hbz.trans (hb.mono hbz.size)
    go_wp2
    go_ret
    exact ⟨rfl, hb2⟩
  have q1 : (kind == 1) = false := by rw [beq_eq_false_iff_ne]; exact k1
  by_cases k2 : kind = 2
  · subst k2
    rw [but2 rfl] at ht
    simp only [Cx.m] at ht
    have cm := may_any p (w.alloc (.cells #[.int .i64 2, .int .u16 p.i, .int .u32 p.k, .int .u64 num, .int .u64 vn, .slice A n c, .int .u64 xv.id, .slice xv.A xv.m xv.c, .slice xv.B xv.d xv.e, .slice xv.C xv.f xv.g] 48))
    obtain ⟨t1, ht1⟩ := bool_of (cntsP num)
    obtain ⟨t2, ht2⟩ := bool_of (cntsP vn)
    obtain ⟨t3, ht3⟩ := bool_of (xv.v = noV)
    have c1 := fun W => counts_any num W t1 ht1
    have c2 := fun W => counts_any vn W t2 ht2
    have cv : ∀ W, Below w.heap.size w W → Calls Tryz.prog 176 #[.agg #[.int .u64 xv.id, .slice xv.A xv.m xv.c, .slice xv.B xv.d xv.e, .slice xv.C xv.f xv.g], .agg #[.int .u64 0, .slice none 0 0, .slice none 0 0, .slice none 0 0]] W (fun e w' => e = .returned (.bool t3) ∧ Below W.heap.size W w') := fun W hb =>
      vsame_any xv zeroX B _ W t3 (h.vw.below (hb.mono hB)) (zeroX_in W) (Nat.le_trans hB hb.size) (Nat.le_refl _) ht3
    obtain ⟨t0, ht0⟩ : ∃ b, b = mayP p := ⟨_, rfl⟩
    rw [← ht0] at cm ht
    have hf : t = (t0 && (t1 && (t2 && t3))) := by
      rw [Bool.eq_iff_iff, ht]
      simp only [Bool.and_eq_true, ht1, ht2, ht3]
    have HF := hide hf
    clear ht hf ht0 ht1 ht2 ht3 h h1
    generalize hw1 : w.alloc (.cells #[.int .i64 2, .int .u16 p.i, .int .u32 p.k, .int .u64 num, .int .u64 vn, .slice A n c, .int .u64 xv.id, .slice xv.A xv.m xv.c, .slice xv.B xv.d xv.e, .slice xv.C xv.f xv.g] 48) = w1 at *
    go_enter Tryz.func178, Tryz.ntmps178
    go_wp2_with fail
    refine cm.mono ?_
    rintro e w2 ⟨rfl, hb⟩
    have hb2 := hbz.trans (hb.mono hbz.size)
    have v2 := v0.later hb
    clear cm hw1 v0 j0 j1 j2 j3 j4 j5 j6 j7 j8 j9
    obtain ⟨j0, j1, j2, j3, j4, j5, j6, j7, j8, j9⟩ := v2.cells
    dsimp only at j0 j1 j2 j3 j4 j5 j6 j7 j8 j9
    have cv := cv w2 hb2
    cases t0
    · go_wp2
      go_ret
      exact ⟨ret_bool HF.out.symm, hb2⟩
    go_wp2_with fail
    refine (c1 w2).mono ?_
    rintro e w3 ⟨rfl, rfl⟩
    cases t1
    · go_wp2
      go_ret
      exact ⟨ret_bool HF.out.symm, hb2⟩
    go_wp2_with fail
    refine (c2 w2).mono ?_
    rintro e w3 ⟨rfl, rfl⟩
    cases t2
    · go_wp2
      go_ret
      exact ⟨ret_bool HF.out.symm, hb2⟩
    go_wp2_with fail
    refine cv.mono ?_
    rintro e w3 ⟨rfl, hb⟩
    have hb3 := hb2.trans (hb.mono hb2.size)
    go_wp2
    go_ret
    exact ⟨ret_bool HF.out.symm, hb3⟩
  have q2 : (kind == 2) = false := by rw [beq_eq_false_iff_ne]; exact k2
  by_cases k3 : kind = 3
  · subst k3
    rw [but3 rfl] at ht
    simp only [Cx.m] at ht
    obtain ⟨t1, ht1⟩ := bool_of (MayV xv.v)
    obtain ⟨t2, ht2⟩ := bool_of ((Cx.m ⟨3, p, num, vn, A, n, c, l, xv⟩) = zC 3 xv.v)
    have cv := check_any xv B (w.alloc (.cells #[.int .i64 3, .int .u16 p.i, .int .u32 p.k, .int .u64 num, .int .u64 vn, .slice A n c, .int .u64 xv.id, .slice xv.A xv.m xv.c, .slice xv.B xv.d xv.e, .slice xv.C xv.f xv.g] 48)) t1 h1.vw hs hB1 ht1
    have cs : ∀ W, Below w.heap.size w W → Calls Tryz.prog 175 #[.agg #[.int .i64 3, .int .u16 p.i, .int .u32 p.k, .int .u64 num, .int .u64 vn, .slice A n c, .int .u64 xv.id, .slice xv.A xv.m xv.c, .slice xv.B xv.d xv.e, .slice xv.C xv.f xv.g], .agg #[.int .i64 3, .int .u16 0, .int .u32 0, .int .u64 0, .int .u64 0, .slice none 0 0, .int .u64 xv.id, .slice xv.A xv.m xv.c, .slice xv.B xv.d xv.e, .slice xv.C xv.f xv.g]] W (fun e w' => e = .returned (.bool t2) ∧ Below W.heap.size W w') := fun W hb =>
      csame_any ⟨3, p, num, vn, A, n, c, l, xv⟩ (zX 3 xv) B B W t2 (h.below (hb.mono hB)) (zX_in (by decide) (by decide) (h.vw.below (hb.mono hB))) (Nat.le_trans hB hb.size) (Nat.le_trans hB hb.size) ht2
    have hf : t = (t1 && t2) := by
      rw [Bool.eq_iff_iff, ht]
      simp only [Bool.and_eq_true, ht1, ht2, Cx.m]
    have HF := hide hf
    clear ht hf ht1 ht2 h h1
    generalize hw1 : w.alloc (.cells #[.int .i64 3, .int .u16 p.i, .int .u32 p.k, .int .u64 num, .int .u64 vn, .slice A n c, .int .u64 xv.id, .slice xv.A xv.m xv.c, .slice xv.B xv.d xv.e, .slice xv.C xv.f xv.g] 48) = w1 at *
    go_enter Tryz.func178, Tryz.ntmps178
    cases t1
    · rw [show ckI false = 1 from rfl] at cv
      go_wp2_with fail
      refine cv.mono ?_
      rintro e w2 ⟨rfl, hb⟩
      have hb2 := hbz.trans (hb.mono hbz.size)
      clear cs hw1
      go_wp2
      go_ret
      exact ⟨ret_bool HF.out.symm, hb2⟩
    rw [show ckI true = 0 from rfl] at cv
    go_wp2_with fail
    refine cv.mono ?_
    rintro e w2 ⟨rfl, hb⟩
    have hb2 := hbz.trans (hb.mono hbz.size)
    have v2 := v0.later hb
    clear cv hw1 v0 j0 j1 j2 j3 j4 j5 j6 j7 j8 j9
    obtain ⟨j0, j1, j2, j3, j4, j5, j6, j7, j8, j9⟩ := v2.cells
    dsimp only at j0 j1 j2 j3 j4 j5 j6 j7 j8 j9
    have cs := cs w2 hb2
    go_wp2_with fail
    refine cs.mono ?_
    rintro e w3 ⟨rfl, hb⟩
    have hb3 := hb2.trans (hb.mono hb2.size)
    go_wp2
    go_ret
    exact ⟨ret_bool HF.out.symm, hb3⟩
  have q3 : (kind == 3) = false := by rw [beq_eq_false_iff_ne]; exact k3
  have hf : t = false := not_of_iff ht (but0 k1 k2 k3)
  have HF := hide hf
  clear ht hf
  go_enter Tryz.func178, Tryz.ntmps178
  go_wp2
  go_ret
  exact ⟨ret_bool HF.out.symm, hbz⟩
end Go.Proofs.YtjmkecaljkcoiaaGreatDoor
namespace Go.Proofs.YtjmkecaljkcoiaaGreatDoor
open Go.RowKit Go.Maps
set_option linter.unusedVariables false
set_option linter.unusedSimpArgs false
theorem ckE_no (n : Nat) : ckE false n = 1 := rfl
theorem ckE_long {n : Nat} (h : 200 < n) : ckE true n = 14 := by simp [ckE, h]
theorem ckE_ok {n : Nat} (h : ¬ 200 < n) : ckE true n = 0 := by simp [ckE, h]
set_option maxRecDepth 100000 in
theorem check9_any (y : Cx) (B : Nat) (w : World) (t : Bool) (h : CxIn w B y) (hs : VSmall y.x) (hB : B ≤ w.heap.size) (ht : t = true ↔ ButLen y.m) :
    Calls Tryz.prog 121 #[.agg #[.int .i64 y.kind, .int .u16 y.p.i, .int .u32 y.p.k, .int .u64 y.num, .int .u64 y.vn, .slice y.A y.n y.c, .int .u64 y.x.id, .slice y.x.A y.x.m y.x.c, .slice y.x.B y.x.d y.x.e, .slice y.x.C y.x.f y.x.g]] w fun e w' => e = .returned (.int .i64 (ckE t y.n)) ∧ Below w.heap.size w w' := by
  have hbz : Below w.heap.size w (w.alloc (.cells #[.int .i64 y.kind, .int .u16 y.p.i, .int .u32 y.p.k, .int .u64 y.num, .int .u64 y.vn, .slice y.A y.n y.c, .int .u64 y.x.id, .slice y.x.A y.x.m y.x.c, .slice y.x.B y.x.d y.x.e, .slice y.x.C y.x.f y.x.g] 48)) := (Below.refl _ _).alloc (Nat.le_refl _) _
  have v0 := CAt.mk_ w y
  have cm := mbf_any y B (w.alloc (.cells #[.int .i64 y.kind, .int .u16 y.p.i, .int .u32 y.p.k, .int .u64 y.num, .int .u64 y.vn, .slice y.A y.n y.c, .int .u64 y.x.id, .slice y.x.A y.x.m y.x.c, .slice y.x.B y.x.d y.x.e, .slice y.x.C y.x.f y.x.g] 48)) t (h.below (hbz.mono hB)) hs (Nat.le_trans hB hbz.size) ht
  clear h ht
  obtain ⟨kind, p, num, vn, A, n, c, l, xv⟩ := y
  obtain ⟨j0, j1, j2, j3, j4, j5, j6, j7, j8, j9⟩ := v0.cells
  dsimp only at *
  generalize hw1 : w.alloc (.cells #[.int .i64 kind, .int .u16 p.i, .int .u32 p.k, .int .u64 num, .int .u64 vn, .slice A n c, .int .u64 xv.id, .slice xv.A xv.m xv.c, .slice xv.B xv.d xv.e, .slice xv.C xv.f xv.g] 48) = w1 at *
  go_enter Tryz.func121, Tryz.ntmps121
  cases t
  · rw [ckE_no]
    go_wp2_with fail
    refine cm.mono ?_
    rintro e w2 ⟨rfl, hb⟩
    have hb2 := hbz.trans (hb.mono hbz.size)
    clear hw1 cm
    go_wp2
    go_ret
    exact ⟨rfl, hb2⟩
  · go_wp2_with fail
    refine cm.mono ?_
    rintro e w2 ⟨rfl, hb⟩
    have hb2 := hbz.trans (hb.mono hbz.size)
    have v2 := v0.later hb
    clear hw1 cm v0 j0 j1 j2 j3 j4 j5 j6 j7 j8 j9
    obtain ⟨j0, j1, j2, j3, j4, j5, j6, j7, j8, j9⟩ := v2.cells
    dsimp only at j0 j1 j2 j3 j4 j5 j6 j7 j8 j9
    by_cases hn : 200 < n
    · have HN := hide (ckE_long hn)
      have z1 : decide ((200 : Int) < (n : Int)) = true := decide_eq_true (by omega)
      clear hn
      go_wp2
      go_ret
      exact ⟨ret_int HN.out.symm, hb2⟩
    · have HN := hide (ckE_ok hn)
      have z1 : decide ((200 : Int) < (n : Int)) = false := decide_eq_false (by omega)
      clear hn
      go_wp2
      go_ret
      exact ⟨ret_int HN.out.symm, hb2⟩
def Great9P (w : World) (y : Cx) (e : Ending) (w' : World) : Prop := ∃ b : Bool, e = .returned (.bool b) ∧ (b = false → CSmall y) ∧ Below w.heap.size w w'
end Go.Proofs.YtjmkecaljkcoiaaGreatDoor
