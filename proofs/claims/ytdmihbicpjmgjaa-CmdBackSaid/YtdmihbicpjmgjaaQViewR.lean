/-
  Layer 8: the contract of Get, where a view's form stands at the beginning.
-/
import Derived.Deep.RegionHeld3
import Derived.Deep.AppendLies
import Derived.Test.YtdmihbicpjmgjaaQViewQ
import Derived.Test.YtdmihbicpjmgjaaQViewH
namespace Go.Proofs.Ytdmihbicpjmgjaa
open Go.RowKit Go.Maps
set_option linter.unusedVariables false
set_option linter.unusedSimpArgs false

/-- Where Get stands: what it has read so far, and its own two variables. -/
structure GetS (w W : World) (b : Nat) (rest : List UInt8) (y : Vw) : Prop where
  v : VAt W (w.heap.size + 1) y
  z : VAt W w.heap.size zeroX
  own : VwOwn W (w.heap.size + 1 + 1) y
  rd : RdAt W b rest 0
  turn : Turn w W b none
  sz : w.heap.size + 1 + 1 ≤ W.heap.size
theorem VwOwn.turnLow {w w' : World} {base b : Nat} {x : Vw} (h : VwOwn w base x) (ht : Turn w w' b none) (hb : b < base) : VwOwn w' base x :=
  ⟨OwnE.turnLow h.ms ht hb, OwnE.turnLow h.lv ht hb, fun y hy => OwnE.turnLow (h.each y hy) ht hb, OwnE.turnLow h.dr ht hb⟩
theorem VwOwn.setFar {w : World} {base : Nat} {x : Vw} (h : VwOwn w base x) {a : Addr} (u : Value) (ha : a.block < base) : VwOwn (w.setCell a u) base x :=
  ⟨OwnE.set_far h.ms u ha, OwnE.set_far h.lv u ha, fun y hy => OwnE.set_far (h.each y hy) u ha, OwnE.set_far h.dr u ha⟩
section
variable {w W W' : World} {b : Nat} {rest rest' : List UInt8} {y : Vw}
theorem GetS.read (h : GetS w W b rest y) (hb : b < w.heap.size) (ht : Turn W W' b none) (hr : RdAt W' b rest' 0) : GetS w W' b rest' y :=
  ⟨h.v.turn ht (by omega) (by simp), h.z.turn ht (by omega) (by simp), h.own.turnLow ht (by omega), hr, h.turn.trans ht (Mov.refl _ _), Nat.le_trans h.sz ht.size⟩
theorem GetS.start (hb : b < w.heap.size) (h : RdAt w b rest 0) : GetS w ((w.alloc (.cells #[.int .u64 0, .slice none 0 0, .slice none 0 0, .slice none 0 0] 31)).alloc (.cells #[.int .u64 0, .slice none 0 0, .slice none 0 0, .slice none 0 0] 31)) b rest zeroX := by
  have v1 := VAt.mk_ (w.alloc (.cells #[.int .u64 0, .slice none 0 0, .slice none 0 0, .slice none 0 0] 31)) zeroX
  rw [World.size_alloc] at v1
  exact ⟨v1, (VAt.mk_ w zeroX).alloc _, zeroX_own _ _, (h.alloc _).alloc _, ((Turn.refl w b none).alloc _).alloc _, by simp⟩
theorem GetS.put0 (h : GetS w W b rest y) (hb : b < w.heap.size) (id : Nat) : GetS w (W.setCell ⟨w.heap.size + 1, 0, none⟩ (.int .u64 (id : Int))) b rest ⟨id, y.A, y.m, y.c, y.l, y.B, y.d, y.e, y.q, y.C, y.f, y.g, y.r⟩ :=
  ⟨heap_setCell_same W (w.heap.size + 1) 0 _ _ _ h.v, h.z.far _ (by simp), ⟨(h.own.setFar _ (by simp)).ms, (h.own.setFar _ (by simp)).lv, (h.own.setFar _ (by simp)).each, (h.own.setFar _ (by simp)).dr⟩, h.rd.other (by simp; omega) _, h.turn.setNew (by simp) _, by simp; exact h.sz⟩
theorem GetS.put1 (h : GetS w W b rest y) (hb : b < w.heap.size) {A : Option Addr} {m c : Nat} {l : List Pr} (ho : OwnE 25 prC 2 W (w.heap.size + 1 + 1) (.slice A m c) m l) : GetS w (W.setCell ⟨w.heap.size + 1, 1, none⟩ (.slice A m c)) b rest ⟨y.id, A, m, c, l, y.B, y.d, y.e, y.q, y.C, y.f, y.g, y.r⟩ :=
  ⟨h.v.set1 A m c l, h.z.far _ (by simp), ⟨OwnE.set_far ho _ (by simp), (h.own.setFar _ (by simp)).lv, (h.own.setFar _ (by simp)).each, (h.own.setFar _ (by simp)).dr⟩, h.rd.other (by simp; omega) _, h.turn.setNew (by simp) _, by simp; exact h.sz⟩
theorem GetS.put3 (h : GetS w W b rest y) (hb : b < w.heap.size) {A : Option Addr} {m c : Nat} {l : List Pr} (ho : OwnE 25 prC 2 W (w.heap.size + 1 + 1) (.slice A m c) m l) : GetS w (W.setCell ⟨w.heap.size + 1, 3, none⟩ (.slice A m c)) b rest ⟨y.id, y.A, y.m, y.c, y.l, y.B, y.d, y.e, y.q, A, m, c, l⟩ :=
  ⟨h.v.set3 A m c l, h.z.far _ (by simp), ⟨(h.own.setFar _ (by simp)).ms, (h.own.setFar _ (by simp)).lv, (h.own.setFar _ (by simp)).each, OwnE.set_far ho _ (by simp)⟩, h.rd.other (by simp; omega) _, h.turn.setNew (by simp) _, by simp; exact h.sz⟩
/-- A leaf that was read is put behind the others: its slice lies in a block of its own, then the row of leaves grows. -/
theorem GetS.leaf (h : GetS w W b rest y) (hb : b < w.heap.size) {A : Option Addr} {m c : Nat} {l : List Pr} (ho : OwnE 25 prC 2 W (w.heap.size + 1 + 1) (.slice A m c) m l) {T : TypeId} {W4 : World} {B2 : Option Addr} {n2 e2 : Nat}
    (hg : (W.alloc (.cells #[.slice A m c] T)).grownBy W4 (Value.slice y.B y.d y.e).ownBlock) (hn : OwnE 28 lfC 1 W4 (w.heap.size + 1 + 1) (.slice B2 n2 e2) n2 (y.q ++ [⟨A, m, c, l⟩])) :
    GetS w (W4.setCell ⟨w.heap.size + 1, 2, none⟩ (.slice B2 n2 e2)) b rest ⟨y.id, y.A, y.m, y.c, y.l, B2, n2, e2, y.q ++ [⟨A, m, c, l⟩], y.C, y.f, y.g, y.r⟩ := by
  have hl : Below W.heap.size W (W.alloc (.cells #[.slice A m c] T)) := (Below.refl _ _).alloc (Nat.le_refl _) _
  have o1 := h.own.later hl
  have hne : ∀ g, (Value.slice y.B y.d y.e).ownBlock = some g → w.heap.size + 1 + 1 ≤ g := fun g hg => (OwnE.lt h.own.lv g hg).1
  have k1 := OwnE.kept_by o1.lv o1.ms (by decide) hg
  have k2 := OwnE.kept_by o1.lv o1.dr (by decide) hg
  have k3 := OwnE.kept_by o1.lv (OwnE.later ho hl) (by decide) hg
  have hs := h.sz
  have hs1 := hl.size
  have v4 : VAt W4 (w.heap.size + 1) y := (hg.block _ (by omega) (fun e => by have := hne _ e.symm; omega)).trans (h.v.later hl)
  have z4 : VAt W4 w.heap.size zeroX := (hg.block _ (by omega) (fun e => by have := hne _ e.symm; omega)).trans (h.z.later hl)
  refine ⟨v4.set2 B2 n2 e2 _, z4.far _ (by simp), ⟨OwnE.set_far k1 _ (by simp), OwnE.set_far hn _ (by simp), fun u hu => ?_, OwnE.set_far k2 _ (by simp)⟩, ((h.rd.alloc _).grown hg (fun g e => by have := hne g e; omega)).other (by simp; omega) _, ((h.turn.alloc _).grownNew hg (fun g e => by have := hne g e; omega)).setNew (by simp) _, ?_⟩
  · dsimp only at hu
    rw [List.mem_append, List.mem_singleton] at hu
    rcases hu with hu | rfl
    · exact OwnE.set_far (OwnE.kept_by o1.lv (o1.each u hu) (by decide) hg) _ (by simp)
    · exact OwnE.set_far k3 _ (by simp)
  · have := hg.size
    simp
    omega
end
end Go.Proofs.Ytdmihbicpjmgjaa
