import Derived.Laws.BitsAllLaws
import Derived.Test.YtjmkecaljkcoiaaGreatDoorQOpenC
import Derived.Test.YtjmkecaljkcoiaaGreatDoorQCmd4
import Derived.Lib.SlBytesConst
namespace Go.Proofs.YtjmkecaljkcoiaaGreatDoor
open Go.RowKit
set_option linter.unusedVariables false
structure Bl where
  r : Nat
  p : Pr
  hr : r < 4294967296
theorem Bl.ext {a b : Bl} (h : a.r = b.r) (h' : a.p = b.p) : a = b := by
  cases a; cases b; simp only at h h'; subst h; subst h'; rfl
instance : Inhabited Bl := ⟨⟨0, default, by decide⟩⟩
structure Ms where
  kind : Int
  who : Pr
  view : Nat
  slot : Nat
  num : Nat
  hops : Int
  b : Bl
  a : Bl
  has : Bool
  c : Cm
  v : Vi
  d : List UInt8
def tabM : Nat → Nat
  | 1 => 1075 | 2 => 292 | 3 => 4 | 4 => 12 | 5 => 76 | 6 => 268 | 7 => 12 | 8 => 12 | 9 => 34 | 10 => 51 | 11 => 33 | 12 => 1540 | 13 => 33 | 14 => 2 | _ => 0
theorem tabM_lt (k : Nat) : tabM k < 2048 := by
  unfold tabM; split <;> decide
def bitsM (k : Int) (t : Bool) : Nat := if k = 5 ∧ t = true then 460 else tabM k.toNat
theorem bitsM_lt (k : Int) (t : Bool) : bitsM k t < 2048 := by
  unfold bitsM; split
  · decide
  · exact tabM_lt _
def hasF (k : Int) (t : Bool) (i : Nat) : Bool := (bitsM k t).testBit i
def zeroF (m : Ms) : Nat → Prop
  | 0 => m.who = default | 1 => m.view = 0 | 2 => m.slot = 0 | 3 => m.b = default | 4 => m.num = 0 | 5 => m.hops = 0 | 6 => m.has = false | 7 => m.a = default | 8 => m.c = zC 0 noV | 9 => m.v = noV | _ => m.d = []
def rightF (m : Ms) : Nat → Prop
  | 0 => mayP m.who = true | 1 => m.view ≤ 4611686018427387904 | 2 => m.slot ≤ 4611686018427387904 | 3 => mayP m.b.p = true | 4 => m.num ≤ 4611686018427387904 | 5 => 0 ≤ m.hops ∧ m.hops ≤ 4 | 6 => True | 7 => mayP m.a.p = true | 8 => MayC m.c | 9 => MayV m.v | _ => m.d.length ≤ 200
structure MayM (m : Ms) : Prop where
  some : bitsM m.kind m.has ≠ 0
  each : ∀ i, i < 11 → (hasF m.kind m.has i = true → rightF m i) ∧ (hasF m.kind m.has i = false → zeroF m i)
theorem tabM_no {k : Nat} (h : ¬ (1 ≤ k ∧ k ≤ 14)) : tabM k = 0 := by
  unfold tabM
  split <;> first | (exfalso; exact h (by decide)) | rfl
theorem tabM_yes {k : Nat} (h : 1 ≤ k ∧ k ≤ 14) : tabM k ≠ 0 := by
  obtain ⟨h1, h2⟩ := h
  have : k = 1 ∨ k = 2 ∨ k = 3 ∨ k = 4 ∨ k = 5 ∨ k = 6 ∨ k = 7 ∨ k = 8 ∨ k = 9 ∨ k = 10 ∨ k = 11 ∨ k = 12 ∨ k = 13 ∨ k = 14 := by omega
  rcases this with rfl | rfl | rfl | rfl | rfl | rfl | rfl | rfl | rfl | rfl | rfl | rfl | rfl | rfl <;> decide
theorem bitsM_some {k : Int} {t : Bool} : bitsM k t ≠ 0 ↔ 1 ≤ k ∧ k ≤ 14 := by
  unfold bitsM
  by_cases h5 : k = 5 ∧ t = true
  · rw [if_pos h5, h5.1]; decide
  · rw [if_neg h5]
    constructor
    · intro h
      apply Classical.byContradiction
      intro hn
      exact h (tabM_no (by omega))
    · intro h
      exact tabM_yes (by omega)
theorem MayM.kind {m : Ms} (h : MayM m) : 1 ≤ m.kind ∧ m.kind ≤ 14 := bitsM_some.1 h.some
def orN (n k : Nat) (t : Bool) : Nat := if t then n ||| k else n
def pk11 (t0 t1 t2 t3 t4 t5 t6 t7 t8 t9 t10 : Bool) : Nat := orN (orN (orN (orN (orN (orN (orN (orN (orN (orN (orN 0 1 t0) 2 t1) 4 t2) 8 t3) 16 t4) 32 t5) 64 t6) 128 t7) 256 t8) 512 t9) 1024 t10
theorem orN_lt {n k : Nat} {t : Bool} (hn : n < 2048) (hk : k < 2048) : orN n k t < 2048 := by
  unfold orN; split
  · exact Nat.or_lt_two_pow (n := 11) hn hk
  · exact hn
theorem orN_bit (n i j : Nat) (t : Bool) : (orN n (2 ^ i) t).testBit j = (n.testBit j || (t && decide (i = j))) := by
  unfold orN
  cases t
  · simp
  · simp [Nat.testBit_or, Nat.testBit_two_pow]
theorem pk11_bits (t0 t1 t2 t3 t4 t5 t6 t7 t8 t9 t10 : Bool) (j : Nat) : (pk11 t0 t1 t2 t3 t4 t5 t6 t7 t8 t9 t10).testBit j =
    (t0 && decide (0 = j) || t1 && decide (1 = j) || t2 && decide (2 = j) || t3 && decide (3 = j) || t4 && decide (4 = j) || t5 && decide (5 = j) || t6 && decide (6 = j) || t7 && decide (7 = j) || t8 && decide (8 = j) || t9 && decide (9 = j) || t10 && decide (10 = j)) := by
  unfold pk11
  rw [show (1024 : Nat) = 2 ^ 10 by decide, orN_bit, show (512 : Nat) = 2 ^ 9 by decide, orN_bit, show (256 : Nat) = 2 ^ 8 by decide, orN_bit, show (128 : Nat) = 2 ^ 7 by decide, orN_bit, show (64 : Nat) = 2 ^ 6 by decide, orN_bit, show (32 : Nat) = 2 ^ 5 by decide, orN_bit,
    show (16 : Nat) = 2 ^ 4 by decide, orN_bit, show (8 : Nat) = 2 ^ 3 by decide, orN_bit, show (4 : Nat) = 2 ^ 2 by decide, orN_bit, show orN (orN 0 1 t0) 2 t1 = orN (orN 0 (2 ^ 0) t0) (2 ^ 1) t1 from rfl, orN_bit, orN_bit, Nat.zero_testBit, Bool.false_or]
def sel11 (t0 t1 t2 t3 t4 t5 t6 t7 t8 t9 t10 : Bool) : Nat → Bool
  | 0 => t0 | 1 => t1 | 2 => t2 | 3 => t3 | 4 => t4 | 5 => t5 | 6 => t6 | 7 => t7 | 8 => t8 | 9 => t9 | _ => t10
theorem lt11 {i : Nat} (h : i < 11) : i = 0 ∨ i = 1 ∨ i = 2 ∨ i = 3 ∨ i = 4 ∨ i = 5 ∨ i = 6 ∨ i = 7 ∨ i = 8 ∨ i = 9 ∨ i = 10 := by omega
theorem pk11_sel (t0 t1 t2 t3 t4 t5 t6 t7 t8 t9 t10 : Bool) (j : Nat) (hj : j < 11) : (pk11 t0 t1 t2 t3 t4 t5 t6 t7 t8 t9 t10).testBit j = sel11 t0 t1 t2 t3 t4 t5 t6 t7 t8 t9 t10 j := by
  rw [pk11_bits]
  rcases lt11 hj with rfl | rfl | rfl | rfl | rfl | rfl | rfl | rfl | rfl | rfl | rfl <;> simp [sel11]
theorem bit_big {n j : Nat} (h : n < 2048) (hj : ¬ j < 11) : n.testBit j = false :=
  Nat.testBit_lt_two_pow (Nat.lt_of_lt_of_le h (by rw [show 2048 = 2 ^ 11 by decide]; exact Nat.pow_le_pow_right (by decide) (by omega)))
theorem and0_iff {n k : Nat} (hn : n < 2048) : n &&& k = 0 ↔ ∀ i, i < 11 → n.testBit i = true → k.testBit i = false := by
  constructor
  · intro h i hi hb
    have := congrArg (Nat.testBit · i) h
    simp only [Nat.testBit_and, Nat.zero_testBit, hb, Bool.true_and] at this
    exact this
  · intro h
    apply Nat.eq_of_testBit_eq
    intro i
    rw [Nat.testBit_and, Nat.zero_testBit]
    by_cases hi : i < 11
    · cases hb : n.testBit i
      · rfl
      · rw [h i hi hb]; rfl
    · rw [bit_big hn hi]; rfl
theorem not16_bit {k i : Nat} (hk : k < 2048) (hi : i < 11) : (65535 - k).testBit i = !k.testBit i := by
  rw [show 65535 - k = 2 ^ 16 - (k + 1) by omega, Nat.testBit_two_pow_sub_succ (by omega)]
  simp
  omega
theorem andNot0_iff {n k : Nat} (hn : n < 2048) (hk : k < 2048) : n &&& (65535 - k) = 0 ↔ ∀ i, i < 11 → n.testBit i = true → k.testBit i = true := by
  rw [and0_iff hn]
  constructor
  · intro h i hi hb
    have := h i hi hb
    rw [not16_bit hk hi] at this
    simpa using this
  · intro h i hi hb
    rw [not16_bit hk hi, h i hi hb]
    rfl
theorem may_bits {m : Ms} {s u : Nat} (hs : s < 2048) (hu : u < 2048) (h1 : ∀ i, i < 11 → (s.testBit i = true ↔ ¬ zeroF m i)) (h2 : ∀ i, i < 11 → (u.testBit i = true ↔ ¬ rightF m i)) :
    MayM m ↔ bitsM m.kind m.has ≠ 0 ∧ s &&& (65535 - bitsM m.kind m.has) = 0 ∧ u &&& bitsM m.kind m.has = 0 := by
  rw [andNot0_iff hs (bitsM_lt _ _), and0_iff hu]
  constructor
  · intro h
    refine ⟨h.some, fun i hi hb => ?_, fun i hi hb => ?_⟩
    · cases hh : (bitsM m.kind m.has).testBit i
      · exact absurd ((h.each i hi).2 hh) ((h1 i hi).1 hb)
      · rfl
    · cases hh : (bitsM m.kind m.has).testBit i
      · rfl
      · exact absurd ((h.each i hi).1 hh) ((h2 i hi).1 hb)
  · rintro ⟨h0, ha, hb⟩
    refine ⟨h0, fun i hi => ⟨fun hh => ?_, fun hh => ?_⟩⟩
    · apply Classical.byContradiction
      intro hn
      have := hb i hi ((h2 i hi).2 hn)
      unfold hasF at hh
      rw [hh] at this
      cases this
    · apply Classical.byContradiction
      intro hn
      have := ha i hi ((h1 i hi).2 hn)
      unfold hasF at hh
      rw [hh] at this
      cases this
def balL (b : Bl) : List UInt8 := shortL b.r ++ pidL b.p.i b.p.k
def fldF (m : Ms) : Nat → List UInt8
  | 0 => pidL m.who.i m.who.k | 1 => shortL m.view | 2 => shortL m.slot | 3 => balL m.b | 4 => shortL m.num | 5 => shortL m.hops.toNat | 6 => [if m.has then 1 else 0] | 7 => balL m.a | 8 => formC m.c | 9 => viewL m.v | _ => shortL m.d.length ++ m.d
def optF (m : Ms) (i : Nat) : List UInt8 := if hasF m.kind m.has i then fldF m i else []
def formM (m : Ms) : List UInt8 := shortL m.kind.toNat ++ (optF m 0 ++ (optF m 1 ++ (optF m 2 ++ (optF m 3 ++ (optF m 4 ++ (optF m 5 ++ (optF m 6 ++ (optF m 7 ++ (optF m 8 ++ (optF m 9 ++ optF m 10))))))))))
theorem fld_len {m : Ms} {i : Nat} (hi : i < 11) (h : rightF m i) (h0 : hasF m.kind m.has i = true) : (fldF m i).length ≤ 100100 + m.d.length := by
  rcases lt11 hi with rfl | rfl | rfl | rfl | rfl | rfl | rfl | rfl | rfl | rfl | rfl
  all_goals simp only [fldF, balL, List.length_append, List.length_cons, List.length_nil]
  · have := pidL_len m.who.i m.who.k; omega
  · have := (shortL_len m.view).2; omega
  · have := (shortL_len m.slot).2; omega
  · have := (shortL_len m.b.r).2; have := pidL_len m.b.p.i m.b.p.k; omega
  · have := (shortL_len m.num).2; omega
  · have := (shortL_len m.hops.toNat).2; omega
  · omega
  · have := (shortL_len m.a.r).2; have := pidL_len m.a.p.i m.a.p.k; omega
  · exact Nat.le_trans (formC_len h) (by omega)
  · exact Nat.le_trans (viewL_len9 h) (by omega)
  · have := (shortL_len m.d.length).2; omega
end Go.Proofs.YtjmkecaljkcoiaaGreatDoor
namespace Go.Proofs.YtjmkecaljkcoiaaGreatDoor
open Go.RowKit Go.Maps
set_option linter.unusedVariables false
set_option linter.unusedSimpArgs false
def nopX : Cx := zX 1 zeroX
def sendX (g : Nat) : Cx := ⟨2, ⟨1, 1, by decide, by decide⟩, 2, 3, some ⟨g, 0, none⟩, 1, 1, [97], zeroX⟩
theorem zeroX_few : VSmall zeroX := ⟨by decide, by decide, by decide, fun y hy => by simp [zeroX] at hy⟩
end Go.Proofs.YtjmkecaljkcoiaaGreatDoor
namespace Go.Proofs.YtjmkecaljkcoiaaGreatDoor
open Go.RowKit Go.Maps
set_option linter.unusedVariables false
set_option linter.unusedSimpArgs false
structure CxOwn (w : World) (base : Nat) (y : Cx) : Prop where
  bs : OwnB w base (.slice y.A y.n y.c) y.n y.l
  v : VwOwn w base y.x
theorem CxOwn.later {w w' : World} {base : Nat} {y : Cx} (h : CxOwn w base y) (hb : Below w.heap.size w w') : CxOwn w' base y := ⟨OwnB.later h.bs hb, h.v.later hb⟩
theorem CxOwn.mono {w : World} {base base' : Nat} {y : Cx} (h : CxOwn w base y) (hb : base' ≤ base) : CxOwn w base' y := ⟨OwnB.mono h.bs hb, h.v.mono hb⟩
theorem OwnB.room9 {w : World} {base n c : Nat} {A : Option Addr} {l : List UInt8} (h : OwnB w base (.slice A n c) n l) : c ≤ maxLen := by
  rcases h.2 with ⟨hv, rfl⟩ | ⟨g, cap, cur, hv, _, _, h1, h2, _⟩
  · injection hv with _ _ hc; subst hc; decide
  · injection hv with _ _ hc; subst hc; exact h2
structure CNums (y : Cx) : Prop where
  k0 : -9223372036854775808 ≤ y.kind
  k1 : y.kind ≤ 9223372036854775807
  hn : y.num < 18446744073709551616
  hv : y.vn < 18446744073709551616
  hi : y.x.id < 18446744073709551616
theorem CxOwn.in_ {w : World} {base : Nat} {y : Cx} (h : CxOwn w base y) (hk : CNums y) : CxIn w w.heap.size y :=
  ⟨hk.k0, hk.k1, hk.hn, hk.hv, OwnB.bs h.bs, OwnB.cap h.bs, OwnB.room9 h.bs, h.v.in_ hk.hi⟩
def Copy9P (w : World) (y : Cx) (e : Ending) (w' : World) : Prop := ∃ z : Cx, e = .returned (.agg #[.int .i64 z.kind, .int .u16 z.p.i, .int .u32 z.p.k, .int .u64 z.num, .int .u64 z.vn, .slice z.A z.n z.c, .int .u64 z.x.id, .slice z.x.A z.x.m z.x.c, .slice z.x.B z.x.d z.x.e, .slice z.x.C z.x.f z.x.g]) ∧ z.m = y.m ∧ z.n = y.n ∧ CNums z ∧ CSmall z ∧ CxOwn w' w.heap.size z ∧ Below w.heap.size w w'
theorem OwnB.setOld9 {w : World} {base n : Nat} {v : Value} {l : List UInt8} (h : OwnB w base v n l) {p : Addr} (hp : p.block < base) (u : Value) : OwnB (w.setCell p u) base v n l := by
  refine ⟨h.1, ?_⟩
  rcases h.2 with h0 | ⟨g, cap, cur, hv, hb, hg, h1, h2, h3, h4⟩
  · exact .inl h0
  · exact .inr ⟨g, cap, cur, hv, hb, (heap_setCell_other w p g u (by omega)).trans hg, h1, h2, h3, h4⟩
theorem VwOwn.setFar9 {w : World} {base : Nat} {x : Vw} (h : VwOwn w base x) {a : Addr} (u : Value) (ha : a.block < base) : VwOwn (w.setCell a u) base x :=
  ⟨h.ms.set_far u ha, h.lv.set_far u ha, fun y hy => (h.each y hy).set_far u ha, h.dr.set_far u ha⟩
theorem CxOwn.setFar {w : World} {base : Nat} {y : Cx} (h : CxOwn w base y) {a : Addr} (u : Value) (ha : a.block < base) : CxOwn (w.setCell a u) base y :=
  ⟨OwnB.setOld9 h.bs ha u, h.v.setFar9 u ha⟩
def putV (w : World) (b : Nat) (x : Vw) : World := (((w.setCell ⟨b, 6, none⟩ (.int .u64 x.id)).setCell ⟨b, 7, none⟩ (.slice x.A x.m x.c)).setCell ⟨b, 8, none⟩ (.slice x.B x.d x.e)).setCell ⟨b, 9, none⟩ (.slice x.C x.f x.g)
theorem CAt.setV {w : World} {b : Nat} {y : Cx} (h : CAt w b y) (x : Vw) : CAt (putV w b x) b ⟨y.kind, y.p, y.num, y.vn, y.A, y.n, y.c, y.l, x⟩ := by
  have h1 := heap_setCell_same w b 6 _ _ (.int .u64 x.id) h
  have h2 := heap_setCell_same _ b 7 _ _ (.slice x.A x.m x.c) h1
  have h3 := heap_setCell_same _ b 8 _ _ (.slice x.B x.d x.e) h2
  exact heap_setCell_same _ b 9 _ _ (.slice x.C x.f x.g) h3
def put10 (w : World) (b : Nat) (y : Cx) : World :=
  putV ((((((w.setCell ⟨b, 0, none⟩ (.int .i64 y.kind)).setCell ⟨b, 1, none⟩ (.int .u16 y.p.i)).setCell ⟨b, 2, none⟩ (.int .u32 y.p.k)).setCell ⟨b, 3, none⟩ (.int .u64 y.num)).setCell ⟨b, 4, none⟩ (.int .u64 y.vn)).setCell ⟨b, 5, none⟩ (.slice y.A y.n y.c)) b y.x
theorem CAt.put {w : World} {b : Nat} {y : Cx} (h : CAt w b y) (z : Cx) : CAt (put10 w b z) b z := by
  have h0 := heap_setCell_same w b 0 _ _ (.int .i64 z.kind) h
  have h1 := heap_setCell_same _ b 1 _ _ (.int .u16 z.p.i) h0
  have h2 := heap_setCell_same _ b 2 _ _ (.int .u32 z.p.k) h1
  have h3 := heap_setCell_same _ b 3 _ _ (.int .u64 z.num) h2
  have h4 := heap_setCell_same _ b 4 _ _ (.int .u64 z.vn) h3
  have h5 := heap_setCell_same _ b 5 _ _ (.slice z.A z.n z.c) h4
  exact CAt.setV (y := ⟨z.kind, z.p, z.num, z.vn, z.A, z.n, z.c, z.l, y.x⟩) h5 z.x
theorem CAt.farV {w : World} {b g : Nat} {y : Cx} (h : CAt w g y) (x : Vw) (hn : g ≠ b) : CAt (putV w b x) g y := (((h.far _ hn).far _ hn).far _ hn).far _ hn
theorem CxOwn.farV {w : World} {base b : Nat} {y : Cx} (h : CxOwn w base y) (x : Vw) (hb : b < base) : CxOwn (putV w b x) base y := (((h.setFar _ hb).setFar _ hb).setFar _ hb).setFar _ hb
end Go.Proofs.YtjmkecaljkcoiaaGreatDoor
