/-
  Contracts of layer 5: a mask in memory; rows of ints; Of.
-/
import Derived.Test.YtnaegaeicdknbaaMask3
namespace Go.Proofs.Ytnaegaeicdknbaa
open Go.RowKit
set_option linter.unusedVariables false
set_option linter.unusedSimpArgs false

/-- A mask in block b. -/
def MAt (w : World) (b x y : Nat) : Prop := w.heap[b]? = some (.cells #[.int .u64 (x : Int), .int .u64 (y : Int)] 24 (0, 0))
section
variable {w w' : World} {b x y : Nat}
theorem MAt.c0 (h : MAt w b x y) : w.cell? ⟨b, 0, none⟩ = some (.int .u64 (x : Int)) := cell_of_row w b 0 _ _ _ h
theorem MAt.c1 (h : MAt w b x y) : w.cell? ⟨b, 1, none⟩ = some (.int .u64 (y : Int)) := cell_of_row w b 1 _ _ _ h
theorem MAt.fz (h : MAt w b x y) (j : Nat) : w.frozen? ⟨b, j, none⟩ = false := frozen_of_row w b j _ _ h
theorem MAt.lt (h : MAt w b x y) : b < w.heap.size := (Array.getElem?_eq_some_iff.1 h).1
theorem MAt.below {B : Nat} (h : MAt w b x y) (hb : Below B w w') (hB : b < B) : MAt w' b x y := (hb.block b hB).trans h
theorem MAt.later (h : MAt w b x y) (hb : Below w.heap.size w w') : MAt w' b x y := h.below hb h.lt
theorem MAt.alloc (h : MAt w b x y) (o : Obj) : MAt (w.alloc o) b x y := (Below.heap_alloc w o b h.lt).trans h
theorem MAt.mk_ (w : World) (x y : Nat) : MAt (w.alloc (.cells #[.int .u64 (x : Int), .int .u64 (y : Int)] 24)) w.heap.size x y := heap_alloc_new w _
theorem MAt.other (h : MAt w b x y) {a : Addr} (v : Value) (hb : b ≠ a.block) : MAt (w.setCell a v) b x y := (heap_setCell_other w a b v hb).trans h
theorem MAt.set_ (h : MAt w b x y) (p q : Nat) : MAt ((w.setCell ⟨b, 0, none⟩ (.int .u64 (p : Int))).setCell ⟨b, 1, none⟩ (.int .u64 (q : Int))) b p q := by
  have h1 := heap_setCell_same w b 0 _ _ (.int .u64 (p : Int)) h
  have h2 := heap_setCell_same _ b 1 _ _ (.int .u64 (q : Int)) h1
  exact h2
end

/-- Ints as elements. -/
def inC (x : Int) : List Value := [.int .i64 x]
theorem inOk : EncOk inC 1 := ⟨fun _ => rfl, fun p v hv => by simp [inC] at hv; subst hv; rfl, by decide⟩
theorem in_at {w : World} {ad : Addr} {k : Nat} {x : Int} (hc : ∀ i v, (inC x)[i]? = some v → w.cell? (ad.add (k * 1 + i)) = some v) : w.cell? (ad.add k) = some (.int .i64 x) := by
  have := hc 0 _ rfl
  simpa using this
/-- A row of ints that came in reads as a list. -/
theorem isRow_ints {w : World} {a : Option Addr} {len cap : Nat} {zs : List Int} (h : IsRow .i64 w a len cap zs) : ∃ l : List Int, Es inC w w.heap.size a len l ∧ len ≤ cap ∧ cap ≤ maxLen := by
  have hb := isRow_block h
  rcases h with ⟨rfl, rfl, rfl, rfl⟩ | ⟨x, rfl, hlc, hm, hz, hc, hw⟩
  · exact ⟨[], Es.none_, Nat.le_refl _, by decide⟩
  · refine ⟨zs.take len, ⟨by simp; omega, fun hl => ⟨x, rfl, hb x rfl hl, fun j y hj => ?_⟩⟩, hlc, hm⟩
    have e : ∀ l : List Int, ec inC l = l.map (fun x => Value.int .i64 x) := by
      intro l
      induction l with
      | nil => rfl
      | cons x l ih => rw [ec_cons, ih]; rfl
    rw [e, List.getElem?_map, Option.map_eq_some_iff] at hj
    obtain ⟨n, hn, rfl⟩ := hj
    rw [List.getElem?_take] at hn
    split at hn
    · obtain ⟨hj, rfl⟩ := List.getElem?_eq_some_iff.1 hn
      rw [hc j hj]
      have e : zs.getD j 0 = zs[j] := by simp [List.getD, hj]
      rw [e]
    · cases hn

/-- Is a rank among some? -/
def ofP (l : List Int) (i : Nat) : Bool := decide ((i : Int) ∈ l)
/-- The mask of the first k. -/
structure OfInv (l : List Int) (k a b : Nat) : Prop where
  lo : a = loM (ofP (l.take k))
  hi : b = hiM (ofP (l.take k))
theorem ofP_nil (i : Nat) : ofP [] i = false := by simp [ofP]
theorem OfInv.start (l : List Int) : OfInv l 0 0 0 := by
  have h := mask_of (a := 0) (b := 0) (p := ofP []) (by decide) (by decide) (fun i _ => by rw [zero_bit, ofP_nil])
  exact ⟨by rw [List.take_zero, h.1], by rw [List.take_zero, h.2]⟩
theorem OfInv.la {l : List Int} {k a b : Nat} (h : OfInv l k a b) : a < 18446744073709551616 := by rw [h.lo]; exact loM_lt _
theorem OfInv.lb {l : List Int} {k a b : Nat} (h : OfInv l k a b) : b < 18446744073709551616 := by rw [h.hi]; exact hiM_lt _
theorem OfInv.yes {l : List Int} {k a b r : Nat} (h : OfInv l k a b) (hk : k < l.length) (hr : r < 128) (he : l[k] = (r : Int)) : OfInv l (k + 1) (putA a r) (putB b r) := by
  have hm := mask_of (p := ofP (l.take (k + 1))) (putA_lt (r := r) h.la) (putB_lt h.lb hr) (fun i hi => by
    rw [put_bit a b r i hr hi, h.lo, h.hi, bit_of _ i hi, List.take_succ_eq_append_getElem hk, he]
    unfold ofP
    rw [Bool.eq_iff_iff]
    have e : ((i : Int) = (r : Int)) ↔ i = r := by omega
    simp only [Bool.or_eq_true, decide_eq_true_eq, List.mem_append, List.mem_singleton, e])
  exact ⟨hm.1.symm, hm.2.symm⟩
theorem OfInv.no {l : List Int} {k a b : Nat} (h : OfInv l k a b) (hk : k < l.length) (hr : ¬ (0 ≤ l[k] ∧ l[k] < 128)) : OfInv l (k + 1) a b := by
  have hm := of_congr (p := ofP (l.take (k + 1))) (q := ofP (l.take k)) (fun i hi => by
    rw [List.take_succ_eq_append_getElem hk]
    unfold ofP
    rw [Bool.eq_iff_iff]
    simp only [decide_eq_true_eq, List.mem_append, List.mem_singleton]
    constructor
    · rintro (h | e)
      · exact h
      · exfalso
        rw [← e] at hr
        omega
    · exact Or.inl)
  exact ⟨by rw [hm.1]; exact h.lo, by rw [hm.2]; exact h.hi⟩
theorem OfInv.done {l : List Int} {k a b : Nat} (h : OfInv l k a b) (hk : l.length ≤ k) : a = loM (ofP l) ∧ b = hiM (ofP l) := by
  obtain ⟨h1, h2⟩ := h
  rw [List.take_of_length_le hk] at h1 h2
  exact ⟨h1, h2⟩
set_option maxRecDepth 100000 in
theorem of_any (A : Option Addr) (n c : Nat) (l : List Int) (B : Nat) (w : World) (hA : Es inC w B A n l) (hB : B ≤ w.heap.size) (hn : n ≤ 1000000) :
    Calls Try.prog 16 #[.slice A n c] w fun e w' => e = .returned (.agg #[.int .u64 ((loM (ofP l) : Nat) : Int), .int .u64 ((hiM (ofP l) : Nat) : Int)]) ∧ Below w.heap.size w w' := by
  have hlen := hA.len
  have HL := hide hlen
  clear hlen
  have h0 := OfInv.start l
  have m0 := (MAt.mk_ w 0 0).alloc (.cells #[.int .u64 0, .int .u64 0] 24)
  have m1 := MAt.mk_ (w.alloc (.cells #[.int .u64 0, .int .u64 0] 24)) 0 0
  have hbw : Below w.heap.size w ((w.alloc (.cells #[.int .u64 0, .int .u64 0] 24)).alloc (.cells #[.int .u64 0, .int .u64 0] 24)) := ((Below.refl _ _).alloc (Nat.le_refl _) _).alloc (by simp) _
  have hz : w.heap.size + 1 + 1 ≤ ((w.alloc (.cells #[.int .u64 0, .int .u64 0] 24)).alloc (.cells #[.int .u64 0, .int .u64 0] 24)).heap.size := by simp
  simp only [World.size_alloc] at m1
  go_enter Try.func16, Try.ntmps16
  go_wp2
  go_loopw [8] (fun i wr => ∃ k a b : Nat, k ≤ n ∧ i = .int .i64 k ∧ OfInv l k a b ∧ MAt wr w.heap.size 0 0 ∧ MAt wr (w.heap.size + 1) a b ∧ Below w.heap.size w wr) (fun i _ => n - (intOf i).toNat)
  case atStart => exact ⟨0, 0, 0, Nat.zero_le _, rfl, h0, m0, m1, hbw⟩
  case round =>
    obtain ⟨k, a, b, hk, rfl, hinv, q0, q1, hb⟩ := hrel
    clear m0 m1 hbw hz
    have la := hinv.la
    have lb := hinv.lb
    have d0 := q1.c0
    have d1 := q1.c1
    have d2 := q1.fz 0
    have d3 := q1.fz 1
    by_cases hlt : k < n
    · have hAr := hA.below (hb.mono hB)
      obtain ⟨ad, hl, rfl, hbl, hc⟩ := hAr.at_ inOk hlt
      have hyes := fun r hr he => hinv.yes (r := r) hl hr he
      have hno := fun hr => hinv.no hl hr
      obtain ⟨x, hx⟩ : ∃ x, x = l[k] := ⟨_, rfl⟩
      rw [← hx] at hc hyes hno
      have hc' := in_at hc
      clear hx hc
      by_cases hr : 0 ≤ x ∧ x < 128
      · obtain ⟨r, rfl⟩ := Int.eq_ofNat_of_zero_le hr.1
        have hr' : r < 128 := by omega
        have hst := hyes r hr' rfl
        have cw := fun W => with_any a b r W la lb hr'
        clear hyes hno hr
        generalize putA a r = a' at *
        generalize putB b r = b' at *
        go_wp2_with fail
        refine (cw _).mono ?_
        rintro e w1 ⟨rfl, hb1⟩
        have p0 := q0.later hb1
        have p1 := q1.later hb1
        have d4 := p1.fz 0
        have d5 := p1.fz 1
        have d6 := p1.c0
        have d7 := p1.c1
        have hb2 := hb.trans (hb1.mono hb.size)
        have s1 := p1.set_ a' b'
        have s0 : MAt ((w1.setCell ⟨w.heap.size + 1, 0, none⟩ (.int .u64 (a' : Int))).setCell ⟨w.heap.size + 1, 1, none⟩ (.int .u64 (b' : Int))) w.heap.size 0 0 := (p0.other _ (by simp)).other _ (by simp)
        have s2 : Below w.heap.size w ((w1.setCell ⟨w.heap.size + 1, 0, none⟩ (.int .u64 (a' : Int))).setCell ⟨w.heap.size + 1, 1, none⟩ (.int .u64 (b' : Int))) := (hb2.setCell (by simp) _).setCell (by simp) _
        clear hb1 hb2 p0 p1 cw d0 d1 d2 d3 hc' hAr
        go_wp2_with fail
        go_roundw
        case rel => exact ⟨k + 1, a', b', by omega, by go_num, hst, s0, s1, s2⟩
        case measure => simp [intOf]; omega
      · have hst := hno hr
        have cw := fun W => with_no a b x W hr
        clear hyes hno hr
        go_wp2_with fail
        refine (cw _).mono ?_
        rintro e w1 ⟨rfl, hb1⟩
        have p0 := q0.later hb1
        have p1 := q1.later hb1
        have d4 := p1.fz 0
        have d5 := p1.fz 1
        have d6 := p1.c0
        have d7 := p1.c1
        have hb2 := hb.trans (hb1.mono hb.size)
        have s1 := p1.set_ a b
        have s0 : MAt ((w1.setCell ⟨w.heap.size + 1, 0, none⟩ (.int .u64 (a : Int))).setCell ⟨w.heap.size + 1, 1, none⟩ (.int .u64 (b : Int))) w.heap.size 0 0 := (p0.other _ (by simp)).other _ (by simp)
        have s2 : Below w.heap.size w ((w1.setCell ⟨w.heap.size + 1, 0, none⟩ (.int .u64 (a : Int))).setCell ⟨w.heap.size + 1, 1, none⟩ (.int .u64 (b : Int))) := (hb2.setCell (by simp) _).setCell (by simp) _
        clear hb1 hb2 p0 p1 cw d0 d1 d2 d3 hc' hAr
        go_wp2_with fail
        go_roundw
        case rel => exact ⟨k + 1, a, b, by omega, by go_num, hst, s0, s1, s2⟩
        case measure => simp [intOf]; omega
    · have hd := hinv.done (by rw [HL.out]; omega)
      have HD := hide hd
      have e0 := q0.c0
      have e1 := q0.c1
      have e2 := q0.fz 0
      have e3 := q0.fz 1
      clear hd hinv
      go_wp2
      rw [← HD.out.1, ← HD.out.2]
      have s1 := q0.set_ a b
      have s2 : Below w.heap.size w ((wr.setCell ⟨w.heap.size, 0, none⟩ (.int .u64 (a : Int))).setCell ⟨w.heap.size, 1, none⟩ (.int .u64 (b : Int))) := (hb.setCell (by simp) _).setCell (by simp) _
      have t0 := s1.c0
      have t1 := s1.c1
      generalize ((wr.setCell ⟨w.heap.size, 0, none⟩ (.int .u64 (a : Int))).setCell ⟨w.heap.size, 1, none⟩ (.int .u64 (b : Int))) = w9 at t0 t1 s2 ⊢
      exact bodyPost_ret (v := .agg #[.int .u64 (a : Int), .int .u64 (b : Int)]) (by simp [results, Try.results16, go_sem, t0, t1]) rfl ⟨rfl, s2⟩
end Go.Proofs.Ytnaegaeicdknbaa
