import Derived.WalkKit
import Derived.ProofKit
import Derived.Below
import Derived.Laws.OwnMore
import Derived.Laws.CopyOwn
import Derived.Deep.AppendLies
import Derived.Deep.Draws
import Derived.Lib.Hide
import Derived.IntWalk
import Derived.Test.YtjmkecaljkcoiaaGreatDoorRows
import Derived.OpenShut
import Derived.ChangeSame
import Derived.WideShapes
import Derived.ChangeArms
import Derived.Lib.SmallJoins
import Derived.Deep.Slices
namespace Go.Proofs.YtjmkecaljkcoiaaGreatDoor
open Go.RowKit
theorem hide {p : Prop} (h : p) : Hid p := h
theorem unhide {p : Prop} (h : Hid p) : p := h
def byteV (x : UInt8) : Value := .int .u8 x.toNat
theorem bytes_one (l : List UInt8) : ∀ u ∈ l.map byteV, u.oneCell' = true := by
  intro u hu
  obtain ⟨x, _, rfl⟩ := List.mem_map.1 hu
  rfl
def bvs (l : List UInt8) : List Value := l.map byteV
theorem bvs_len (l : List UInt8) : (bvs l).length = l.length := by simp [bvs]
theorem bvs_one (l : List UInt8) : ∀ u ∈ bvs l, u.oneCell' = true := bytes_one l
theorem bvs_snoc (l : List UInt8) (x : UInt8) : bvs (l ++ [x]) = bvs l ++ [byteV x] := by simp [bvs]
theorem bvs_append (l m : List UInt8) : bvs (l ++ m) = bvs l ++ bvs m := by simp [bvs]
theorem cell_lit1 (w : World) {v u : Value} (t : TypeId) (h : v = u) : (w.alloc (.cells #[v] t)).cell? ⟨w.heap.size, 0, none⟩ = some u := by
  subst h
  exact cell_of_row _ _ 0 #[v] t (0, 0) (heap_alloc_new w _)
theorem block_of_add (a : Addr) (n : Nat) : (a.add n).block = a.block := by unfold Addr.add; split <;> rfl
theorem add_of_add (a : Addr) (i j : Nat) : (a.add i).add j = a.add (i + j) := by
  unfold Addr.add
  by_cases hi : i = 0 <;> by_cases hj : j = 0 <;> simp [hi, hj, Nat.add_assoc]
def Bs (w : World) (B : Nat) (A : Option Addr) (n : Nat) (l : List UInt8) : Prop :=
  l.length = n ∧ (0 < n → ∃ ad, A = some ad ∧ ad.block < B ∧ ∀ j x, l[j]? = some x → w.cell? (ad.add j) = some (byteV x))
section
variable {w w' : World} {B B' n : Nat} {A : Option Addr} {l : List UInt8}
theorem Bs.len (h : Bs w B A n l) : l.length = n := h.1
theorem Bs.none_ : Bs w B A 0 [] := ⟨rfl, fun h => absurd h (by omega)⟩
theorem Bs.at_ {k : Nat} (h : Bs w B A n l) (hk : k < n) : ∃ ad, ∃ hl : k < l.length, A = some ad ∧ ad.block < B ∧ w.cell? (ad.add k) = some (byteV l[k]) := by
  obtain ⟨ad, e, hb, hc⟩ := h.2 (by omega)
  have hl : k < l.length := by have := h.1; omega
  exact ⟨ad, hl, e, hb, hc k _ (List.getElem?_eq_getElem hl)⟩
theorem Bs.keep (h : Bs w B A n l) (hk : ∀ p : Addr, p.block < B → w'.cell? p = w.cell? p) : Bs w' B A n l :=
  ⟨h.1, fun hn => by
    obtain ⟨ad, e, hb, hc⟩ := h.2 hn
    exact ⟨ad, e, hb, fun j u hu => (hk _ (by rw [block_of_add]; exact hb)).trans (hc j u hu)⟩⟩
theorem Bs.more (h : Bs w B A n l) (hB : B ≤ B') : Bs w B' A n l :=
  ⟨h.1, fun hn => by
    obtain ⟨ad, e, hb, hc⟩ := h.2 hn
    exact ⟨ad, e, by omega, hc⟩⟩
theorem Bs.below (h : Bs w B A n l) (hb : Below B w w') : Bs w' B A n l := h.keep fun _ hp => hb.cell hp
theorem Bs.drew (h : Bs w B A n l) : Bs w.drew B A n l := h
theorem Bs.drewN (h : Bs w B A n l) (k : Nat) : Bs (w.drewN k) B A n l := h
theorem Bs.alloc (h : Bs w B A n l) (hB : B ≤ w.heap.size) (o : Obj) : Bs (w.alloc o) B A n l := h.keep fun p hp => World.cell?_alloc_lt w o p (by omega)
theorem Bs.setCell (h : Bs w B A n l) {p : Addr} (hB : B ≤ p.block) (u : Value) : Bs (w.setCell p u) B A n l :=
  h.keep fun q hq => World.cell?_setCell_other w p q u (fun e => by subst e; omega)
theorem Bs.grown (h : Bs w B A n l) {row : Option Nat} (hg : w.grownBy w' row) (hB : B ≤ w.heap.size) (hr : ∀ g, row = some g → B ≤ g) : Bs w' B A n l :=
  h.keep fun p hp => World.cell?_of_block (hg.block p.block (by omega) (fun e => by have := hr _ e.symm; omega))
theorem Bs.take (h : Bs w B A n l) {k : Nat} (hk : k ≤ n) : Bs w B A k (l.take k) :=
  ⟨by rw [List.length_take, h.1]; omega, fun hn => by
    obtain ⟨ad, e, hb, hc⟩ := h.2 (by omega)
    refine ⟨ad, e, hb, fun j u hu => hc j u ?_⟩
    rw [List.getElem?_take] at hu
    split at hu
    · exact hu
    · cases hu⟩
theorem Bs.cut (h : Bs w B A n l) {k cap : Nat} (hk : k ≤ n) (hc : n ≤ cap) :
    Bs w B (if cap = k then A else A.map (·.add k)) (n - k) (l.drop k) := by
  refine ⟨by rw [List.length_drop, h.1], fun hn => ?_⟩
  obtain ⟨ad, rfl, hb, hcell⟩ := h.2 (by omega)
  rw [if_neg (by omega)]
  refine ⟨ad.add k, rfl, by rw [block_of_add]; exact hb, fun j u hu => ?_⟩
  rw [add_of_add]
  exact hcell _ u (by rw [← hu, List.getElem?_drop])
theorem Bs.of_own {base : Nat} {e : TypeId} {c : Nat} (h : w.ownsRow base e 1 (.slice A n c) n (bvs l)) : Bs w w.heap.size A n l := by
  have hl : l.length = n := by have := h.1; simpa [bvs] using this
  refine ⟨hl, fun hn => ?_⟩
  rcases h.2 with ⟨_, h0⟩ | ⟨g, cap, cur, hv, _, hg, _, _, _, _⟩
  · omega
  · have hA : A = some ⟨g, 0, none⟩ := by injection hv
    subst hA
    refine ⟨_, rfl, (Array.getElem?_eq_some_iff.1 hg).1, fun j x hx => ?_⟩
    exact h.cells (g := g) rfl j (byteV x) (by rw [bvs, List.getElem?_map, hx]; rfl)
end
theorem Bs.src {w : World} {B n : Nat} {A : Option Addr} {l : List UInt8} {cs : List Value} (h : Bs w B A n l) (hcs : cs = bvs l) (hp : 0 < cs.length) :
    ∃ ad, A = some ad ∧ ∀ j v, cs[j]? = some v → w.cell? (ad.add j) = some v := by
  subst hcs
  obtain ⟨ad, e, _, hc⟩ := h.2 (by rw [← h.1]; simpa [bvs] using hp)
  refine ⟨ad, e, fun j v hv => ?_⟩
  rw [bvs, List.getElem?_map, Option.map_eq_some_iff] at hv
  obtain ⟨x, hx, rfl⟩ := hv
  exact hc j x hx
def Drawn (w w' : World) : Prop := ∃ k, w' = w.drewN k
theorem Drawn.refl (w : World) : Drawn w w := ⟨0, rfl⟩
theorem drawn_one (w : World) (k : Nat) : Drawn w (w.drewN k) := ⟨k, rfl⟩
theorem drawn_two (w : World) (k j : Nat) : Drawn w ((w.drewN k).drewN j) := ⟨k + j, World.drewN_drewN _ _ _⟩
theorem below_drewN {B : Nat} {a w : World} (h : Below B a w) (n : Nat) : Below B a (w.drewN n) := ⟨h.os, h.tape, h.output, h.size, h.block⟩
theorem drawn_below {B : Nat} {w w' : World} (h : Drawn w w') : Below B w w' := by
  obtain ⟨k, rfl⟩ := h
  exact below_drewN (Below.refl _ _) k
def sameB (l m : List UInt8) : Bool := decide (l = m)
theorem sameB_eq {l m : List UInt8} (h : l = m) : sameB l m = true := by simp [sameB, h]
theorem sameB_len {l m : List UInt8} (h : l.length ≠ m.length) : sameB l m = false := by
  simp only [sameB, decide_eq_false_iff_not]
  intro e; exact h (by rw [e])
theorem ret_bool {a b : Bool} (h : a = b) : Ending.returned (.bool a) = .returned (.bool b) := by rw [h]
theorem ret_int {k : IntKind} {a b : Int} (h : a = b) : Ending.returned (.int k a) = .returned (.int k b) := by rw [h]
end Go.Proofs.YtjmkecaljkcoiaaGreatDoor
namespace Go.Proofs.YtjmkecaljkcoiaaGreatDoor
open Go.RowKit
theorem own : ownKnob Tryz.prog.godebug = none := by kernel_rfl
theorem laidOut : laidOutB Tryz.prog = true := by kernel_rfl
def IsRow (k : IntKind) (w : World) (a : Option Addr) (len cap : Nat) (zs : List Int) : Prop :=
  (a = none ∧ len = 0 ∧ cap = 0 ∧ zs = []) ∨
  ∃ x, a = some x ∧ len ≤ cap ∧ cap ≤ maxLen ∧ zs.length = cap ∧ (∀ i, i < zs.length → w.cell? (x.add i) = some (.int k (zs.getD i 0))) ∧ ∀ n ∈ zs, (Lit.int k n).wf = true
theorem isRow_block {k : IntKind} {w : World} {a : Option Addr} {len cap : Nat} {zs : List Int} (h : IsRow k w a len cap zs) : ∀ x, a = some x → 0 < len → x.block < w.heap.size := by
  intro x hx hl
  rcases h with ⟨rfl, _⟩ | ⟨y, rfl, hlc, _, hz, hc, _⟩
  · cases hx
  · obtain rfl := Option.some.inj hx
    have := World.block_lt_of_cell? w _ (hc 0 (by omega))
    rwa [block_of_add] at this
theorem wf_u8 {n : Int} (h : (Lit.int .u8 n).wf = true) : 0 ≤ n ∧ n ≤ 255 := by
  simp [Lit.wf, IntKind.min, IntKind.max, IntKind.bits, IntKind.signed] at h; omega
theorem wf_u64 {n : Int} (h : (Lit.int .u64 n).wf = true) : 0 ≤ n ∧ n ≤ 18446744073709551615 := by
  simp [Lit.wf, IntKind.min, IntKind.max, IntKind.bits, IntKind.signed] at h; omega
theorem wf_i64 {n : Int} (h : (Lit.int .i64 n).wf = true) : -9223372036854775808 ≤ n ∧ n ≤ 9223372036854775807 := by
  simp [Lit.wf, IntKind.min, IntKind.max, IntKind.bits, IntKind.signed] at h; omega
theorem isRow_bytes {w : World} {a : Option Addr} {len cap : Nat} {zs : List Int} (h : IsRow .u8 w a len cap zs) : ∃ l : List UInt8, Bs w w.heap.size a len l ∧ len ≤ cap ∧ cap ≤ maxLen := by
  have hb := isRow_block h
  rcases h with ⟨rfl, rfl, rfl, rfl⟩ | ⟨x, rfl, hlc, hm, hz, hc, hw⟩
  · exact ⟨[], Bs.none_, Nat.le_refl _, by decide⟩
  · refine ⟨(zs.take len).map (fun n => UInt8.ofNat n.toNat), ⟨by simp; omega, fun hl => ⟨x, rfl, hb x rfl hl, fun j y hj => ?_⟩⟩, hlc, hm⟩
    rw [List.getElem?_map, Option.map_eq_some_iff] at hj
    obtain ⟨n, hn, rfl⟩ := hj
    rw [List.getElem?_take] at hn
    split at hn
    · obtain ⟨hj, rfl⟩ := List.getElem?_eq_some_iff.1 hn
      have hwf := wf_u8 (hw zs[j] (List.getElem_mem hj))
      rw [hc j hj, byteV]
      have e : zs.getD j 0 = zs[j] := by simp [List.getD, hj]
      rw [e]
      congr 2
      simp
      omega
    · cases hn
end Go.Proofs.YtjmkecaljkcoiaaGreatDoor
namespace Go.Proofs.YtjmkecaljkcoiaaGreatDoor
open Go.ChangeShapes Go.WideShapes Go.RowKit
theorem wf_u16 {n : Int} (h : (Lit.int .u16 n).wf = true) : 0 ≤ n ∧ n ≤ 65535 := by
  simp [Lit.wf, IntKind.min, IntKind.max, IntKind.bits, IntKind.signed] at h; omega
theorem wf_u32 {n : Int} (h : (Lit.int .u32 n).wf = true) : 0 ≤ n ∧ n ≤ 4294967295 := by
  simp [Lit.wf, IntKind.min, IntKind.max, IntKind.bits, IntKind.signed] at h; omega
theorem cells_pid : Tryz.prog.cellsOf 44 = 2 := by kernel_rfl
theorem cells_u16 : Tryz.prog.cellsOf 41 = 1 := by kernel_rfl
theorem cells_u32 : Tryz.prog.cellsOf 42 = 1 := by kernel_rfl
section
variable {H : Type} {enc : TypeId × Value → H} {w : World} {base : Nat} {spare : Nat → Bool} {held : Bool}
theorem u16_cell {fuel : Nat} {cs : List Value} {x : DataW H × List MemPlace} (h : DataW.trod enc Tryz.prog w base spare held fuel 41 cs = some x) : ∃ i : Nat, cs = [.int .u16 i] ∧ i < 65536 := by
  obtain ⟨n, rfl, _, hw⟩ := DataW.trod_int Tryz.underlying41 h
  have hb := wf_u16 hw
  obtain ⟨i, rfl⟩ := Int.eq_ofNat_of_zero_le hb.1
  exact ⟨i, rfl, by omega⟩
theorem u32_cell {fuel : Nat} {cs : List Value} {x : DataW H × List MemPlace} (h : DataW.trod enc Tryz.prog w base spare held fuel 42 cs = some x) : ∃ i : Nat, cs = [.int .u32 i] ∧ i < 4294967296 := by
  obtain ⟨n, rfl, _, hw⟩ := DataW.trod_int Tryz.underlying42 h
  have hb := wf_u32 hw
  obtain ⟨i, rfl⟩ := Int.eq_ofNat_of_zero_le hb.1
  exact ⟨i, rfl, by omega⟩
set_option maxRecDepth 100000 in
theorem pid_cells {fuel : Nat} {cs : List Value} {x : DataW H × List MemPlace} (h : DataW.trod enc Tryz.prog w base spare held fuel 44 cs = some x) :
    ∃ i c : Nat, cs = [.int .u16 i, .int .u32 c] ∧ i < 65536 ∧ c < 4294967296 := by
  obtain ⟨y0, y1, n, _, hl, h0, h1⟩ := trod_struct2 Tryz.underlying44 h
  rw [cells_pid] at hl
  match cs, hl with
  | [a, b], _ =>
    simp only [cells_u16, cells_u32, List.drop_zero, List.drop_succ_cons, List.take_succ_cons, List.take_zero] at h0 h1
    obtain ⟨i, e0, hi⟩ := u16_cell h0
    obtain ⟨c, e1, hc⟩ := u32_cell h1
    simp only [List.cons.injEq, and_true] at e0 e1
    subst e0; subst e1
    exact ⟨i, c, rfl, hi, hc⟩
theorem cells_ballot : Tryz.prog.cellsOf 46 = 3 := by kernel_rfl
set_option maxRecDepth 100000 in
theorem ballot_cells {fuel : Nat} {cs : List Value} {x : DataW H × List MemPlace} (h : DataW.trod enc Tryz.prog w base spare held fuel 46 cs = some x) :
    ∃ r i c : Nat, cs = [.int .u32 r, .int .u16 i, .int .u32 c] ∧ r < 4294967296 ∧ i < 65536 ∧ c < 4294967296 := by
  obtain ⟨y0, y1, n, _, hl, h0, h1⟩ := trod_struct2 Tryz.underlying46 h
  rw [cells_ballot] at hl
  match cs, hl with
  | [a, b, c], _ =>
    simp only [cells_pid, cells_u32, List.drop_zero, List.drop_succ_cons, List.take_succ_cons, List.take_zero] at h0 h1
    obtain ⟨r, e0, hr⟩ := u32_cell h0
    obtain ⟨i, c, e1, hi, hc⟩ := pid_cells h1
    simp only [List.cons.injEq, and_true] at e0 e1
    obtain ⟨rfl, rfl⟩ := e1
    subst e0
    exact ⟨r, i, c, rfl, hr, hi, hc⟩
theorem open_pids {fuel : Nat} {cs : List Value} {x : DataW H × List MemPlace} (h : DataW.trod enc Tryz.prog w base spare held fuel 23 cs = some x) :
    cs = [.slice none 0 0] ∨ ∃ (a : Addr) (len cap : Nat), cs = [.slice (some a) len cap] ∧ len ≤ cap ∧ cap ≤ maxLen ∧
      ∀ i, i < len → ∃ j c : Nat, w.cell? (a.add (i * 2)) = some (.int .u16 j) ∧ w.cell? (a.add (i * 2 + 1)) = some (.int .u32 c) ∧ j < 65536 ∧ c < 4294967296 := by
  rcases Go.Deep.open_slice Tryz.underlying23 h with ⟨h0, _⟩ | ⟨a, len, cap, m, n, D, Pl, rfl, _, hl, hm, hmm, _, hi⟩
  · exact .inl h0
  · refine .inr ⟨a, len, cap, rfl, hl, hm, fun i hlt => ?_⟩
    obtain ⟨cs', hc, ht⟩ := hi i (by rw [hmm]; split <;> omega)
    rw [cells_pid] at hc
    obtain ⟨j, c, rfl, hj, hcc⟩ := pid_cells ht
    obtain ⟨_, _, hat⟩ := World.cells?_some hc
    have e0 := hat 0 (by decide)
    have e1 := hat 1 (by decide)
    refine ⟨j, c, ?_, ?_, hj, hcc⟩
    · simpa [add_of_add] using e0
    · simpa [add_of_add] using e1
end
end Go.Proofs.YtjmkecaljkcoiaaGreatDoor
namespace Go.Proofs.YtjmkecaljkcoiaaGreatDoor
open Go.ChangeShapes Go.WideShapes Go.RowKit
set_option linter.unusedVariables false
structure PkOk (w : World) (k : Int) (i c j d s : Nat) (A : Option Addr) (n q : Nat) (l : List UInt8) : Prop where
  k0 : -9223372036854775808 ≤ k
  k1 : k ≤ 9223372036854775807
  hi : i < 65536
  hc : c < 4294967296
  hj : j < 65536
  hd : d < 4294967296
  hs : s < 18446744073709551616
  bs : Bs w w.heap.size A n l
  nq : n ≤ q
  room : q ≤ maxLen
theorem cells_int : Tryz.prog.cellsOf 3 = 1 := by kernel_rfl
theorem cells_u64 : Tryz.prog.cellsOf 22 = 1 := by kernel_rfl
theorem cells_bytes : Tryz.prog.cellsOf 39 = 1 := by kernel_rfl
section
variable {H : Type} {enc : TypeId × Value → H} {w : World} {base : Nat} {spare : Nat → Bool} {held : Bool}
theorem trod_struct5 {P : Program} {t : TypeId} {f0 f1 f2 f3 f4 : Field} {fuel : Nat} {cs : List Value} {x : DataW H × List MemPlace} (ht : P.underlying t = some (.struct #[f0, f1, f2, f3, f4])) (h : DataW.trod enc P w base spare held fuel t cs = some x) :
    ∃ y0 y1 y2 y3 y4 n, cs.length = P.cellsOf t ∧ DataW.trod enc P w base spare held n f0.type ((cs.drop f0.offset).take (P.cellsOf f0.type)) = some y0 ∧
      DataW.trod enc P w base spare held n f1.type ((cs.drop f1.offset).take (P.cellsOf f1.type)) = some y1 ∧ DataW.trod enc P w base spare held n f2.type ((cs.drop f2.offset).take (P.cellsOf f2.type)) = some y2 ∧
      DataW.trod enc P w base spare held n f3.type ((cs.drop f3.offset).take (P.cellsOf f3.type)) = some y3 ∧ DataW.trod enc P w base spare held n f4.type ((cs.drop f4.offset).take (P.cellsOf f4.type)) = some y4 := by
  obtain ⟨xs, n, _, rfl, hl, hlen, hf⟩ := DataW.trod_struct ht h
  match xs, hlen with
  | [y0, y1, y2, y3, y4], _ => exact ⟨y0, y1, y2, y3, y4, n, hl, by simpa using hf 0 f0 rfl, by simpa using hf 1 f1 rfl, by simpa using hf 2 f2 rfl, by simpa using hf 3 f3 rfl, by simpa using hf 4 f4 rfl⟩
theorem u64_cell {fuel : Nat} {cs : List Value} {x : DataW H × List MemPlace} (h : DataW.trod enc Tryz.prog w base spare held fuel 22 cs = some x) : ∃ i : Nat, cs = [.int .u64 i] ∧ i < 18446744073709551616 := by
  obtain ⟨n, rfl, _, hw⟩ := DataW.trod_int Tryz.underlying22 h
  have hwf := wf_u64 hw
  exact ⟨n.toNat, by rw [Int.toNat_of_nonneg hwf.1], by omega⟩
theorem bytes_cell {fuel : Nat} {v : Value} {x : DataW H × List MemPlace} (h : DataW.trod enc Tryz.prog w base (fun _ => true) held fuel 39 [v] = some x) : ∃ A n q l, v = .slice A n q ∧ Bs w w.heap.size A n l ∧ n ≤ q ∧ q ≤ maxLen := by
  rcases open_ints Tryz.underlying39 Tryz.underlying5 (by kernel_rfl) h with ⟨hcs, _⟩ | ⟨y, l, c, zs, hcs, _, hl, hm, hz, _, hcell, hwz⟩
  · simp only [List.cons.injEq, and_true] at hcs
    exact ⟨none, 0, 0, [], hcs, Bs.none_, Nat.le_refl _, by decide⟩
  · simp only [List.cons.injEq, and_true] at hcs
    obtain ⟨l', h1, h2, h3⟩ := isRow_bytes (a := some _) (len := l) (cap := c) (zs := zs) (w := w) (.inr ⟨_, rfl, hl, hm, by simpa using hz, hcell, hwz⟩)
    exact ⟨_, _, _, l', hcs, h1, h2, h3⟩
end
end Go.Proofs.YtjmkecaljkcoiaaGreatDoor
