/-
  Layer 10, the document's: the fields of a kind; is a letter in a text; no command; has a message more than is looked at?
-/
import Derived.Laws.IdiomStrings
import Derived.Test.YtjmkecaljkcoiaaDoorQViewB
import Derived.Test.YtjmkecaljkcoiaaDoorQCmd7
import Derived.Test.YtjmkecaljkcoiaaDoorQCmd6
namespace Go.Proofs.YtjmkecaljkcoiaaDoor
open Go.RowKit Go.Maps
set_option linter.unusedVariables false
set_option linter.unusedSimpArgs false

/-- Bytes as a text. -/
def tx10 (l : List UInt8) : ByteArray := ⟨l.toArray⟩
theorem tx10_size (l : List UInt8) : (tx10 l).size = l.length := by show l.toArray.size = l.length; simp
theorem char10 (l : List UInt8) (k : Nat) (h : k < l.length) (W : World) :
    (Instr.index 9 (.string (tx10 l)) (.int .i64 (k : Int))).run Tryd.prog W = .ok (.int .u8 (l[k].toNat : Int)) W := by
  have hs : k < (tx10 l).size := by rw [tx10_size]; exact h
  rw [run_index_string W 9 (tx10 l) .i64 _ Tryd.underlying9, dif_pos ⟨by omega, by omega⟩]
  rfl
/-- A kind's fields, a letter each. -/
def fldT : Nat → List UInt8
  | 1 => [119, 118, 110, 104, 121] | 2 => [115, 104, 99] | 3 => [115] | 4 => [115, 98] | 5 => [115, 98, 112] | 6 => [115, 98, 99] | 7 => [115, 98] | 8 => [115, 98] | 9 => [118, 104] | 10 => [119, 118, 110, 104] | 11 => [119, 104] | 12 => [115, 86, 121] | 13 => [119, 104] | 14 => [118] | _ => []
theorem fldT_len (k : Nat) : (fldT k).length ≤ 5 := by unfold fldT; split <;> decide
def fldI (k : Int) : List UInt8 := fldT k.toNat
theorem fldT_no {k : Nat} (h : ¬ (1 ≤ k ∧ k ≤ 14)) : fldT k = [] := by
  unfold fldT
  split <;> first | (exfalso; exact h (by decide)) | rfl
theorem fldI_no {k : Int} (h : ¬ (1 ≤ k ∧ k ≤ 14)) : fldI k = [] := fldT_no (by omega)
theorem fourteen {k : Int} (h : 1 ≤ k ∧ k ≤ 14) : k = 1 ∨ k = 2 ∨ k = 3 ∨ k = 4 ∨ k = 5 ∨ k = 6 ∨ k = 7 ∨ k = 8 ∨ k = 9 ∨ k = 10 ∨ k = 11 ∨ k = 12 ∨ k = 13 ∨ k = 14 := by omega
set_option maxRecDepth 100000 in
set_option maxHeartbeats 1000000 in
theorem fields10_any (k : Int) (w : World) (h0 : -9223372036854775808 ≤ k) (h1 : k ≤ 9223372036854775807) :
    Calls Tryd.prog 28 #[.int .i64 k] w fun e w' => e = .returned (.string (tx10 (fldI k))) ∧ Below w.heap.size w w' := by
  by_cases hlo : k < 1
  · have z1 : decide (k < 1) = true := decide_eq_true hlo
    rw [fldI_no (by omega)]
    clear hlo
    go_enter Tryd.func28, Tryd.ntmps28
    go_wp2
    go_ret
    exact ⟨rfl, Below.refl _ _⟩
  have z1 : decide (k < 1) = false := decide_eq_false hlo
  by_cases hhi : 14 < k
  · have z2 : decide (14 < k) = true := decide_eq_true hhi
    rw [fldI_no (by omega)]
    clear hlo hhi
    go_enter Tryd.func28, Tryd.ntmps28
    go_wp2
    go_ret
    exact ⟨rfl, Below.refl _ _⟩
  clear z1
  rcases fourteen (k := k) ⟨by omega, by omega⟩ with rfl | rfl | rfl | rfl | rfl | rfl | rfl | rfl | rfl | rfl | rfl | rfl | rfl | rfl
  all_goals
    clear hlo hhi h0 h1
    go_enter Tryd.func28, Tryd.ntmps28
    go_wp2
    go_ret
    exact ⟨rfl, (Below.refl _ _).alloc (Nat.le_refl _) _⟩
set_option maxRecDepth 100000 in
theorem has10_any (c : UInt8) (l : List UInt8) (w : World) (b : Bool) (hs : l.length ≤ 2000) (hb : b = decide (c ∈ l)) :
    Calls Tryd.prog 29 #[.string (tx10 l), .int .u8 (c.toNat : Int)] w fun e w' => e = .returned (.bool b) ∧ w = w' := by
  have hz := tx10_size l
  have hch := fun (k : Nat) (hk : k < l.length) W => char10 l k hk W
  have HC := hide hch
  have HB := hide hb
  clear hch hb
  go_enter Tryd.func29, Tryd.ntmps29
  go_wp2
  go_loopw [5] (fun i wr => ∃ k : Nat, k ≤ l.length ∧ i = .int .i64 k ∧ (∀ x ∈ l.take k, x ≠ c) ∧ wr = w) (fun i _ => l.length - (intOf i).toNat)
  case atStart => exact ⟨0, Nat.zero_le _, rfl, fun x hx => by simp at hx, rfl⟩
  case round =>
    obtain ⟨k, hk, rfl, hno, rfl⟩ := hrel
    by_cases hlt : k < l.length
    · have hc := HC.out k hlt
      have hst : l[k] ≠ c → ∀ x ∈ l.take (k + 1), x ≠ c := fun h x hx => by
        rw [List.take_succ_eq_append_getElem hlt, List.mem_append, List.mem_singleton] at hx
        exact hx.elim (hno x) (fun e => e ▸ h)
      have hyes : l[k] = c → b = true := fun h => by rw [HB.out, decide_eq_true_eq, ← h]; exact List.getElem_mem hlt
      have heq : l[k] = c ↔ l[k].toNat = c.toNat := UInt8.toNat_inj.symm
      obtain ⟨y, hy⟩ : ∃ y, y = l[k].toNat := ⟨_, rfl⟩
      obtain ⟨cc, hcc⟩ : ∃ y, y = c.toNat := ⟨_, rfl⟩
      rw [← hy] at hc
      rw [← hy, ← hcc] at heq
      have hltz : k < (tx10 l).size := by omega
      by_cases hyc : y = cc
      · obtain rfl := hyes (heq.2 hyc)
        have u1 : ((y : Int) == (cc : Int)) = true := by rw [hyc]; simp
        rw [← hcc]
        clear hst heq hyc hcc hy hno hyes
        go_wp2
        go_ret
        exact ⟨rfl, rfl⟩
      · have hst2 := hst (fun h => hyc (heq.1 h))
        have u1 : ((y : Int) == (cc : Int)) = false := by simp only [beq_eq_false_iff_ne, ne_eq]; omega
        have HS := hide hst2
        rw [← hcc]
        clear hst heq hyc hst2 hno hyes
        go_wp2_with fail
        go_roundw
        case rel => exact ⟨k + 1, by omega, by go_num, HS.out, by first | rfl | trivial⟩
        case measure => simp [intOf]; omega
    · have hf : b = false := by
        rw [HB.out, decide_eq_false_iff_not]
        intro hc
        exact hno c (by rw [List.take_of_length_le (by omega)]; exact hc) rfl
      have HF := hide hf
      clear hf hno
      go_wp2
      go_ret
      exact ⟨ret_bool HF.out.symm, rfl⟩
def Great10P (w : World) (z : Mx) (e : Ending) (w' : World) : Prop := ∃ b : Bool, e = .returned (.bool b) ∧ (b = false → MSmall z) ∧ Below w.heap.size w w'
set_option maxRecDepth 100000 in
theorem great10_any (z : Mx) (B : Nat) (w : World) (h : MxIn w B z) (hB : B ≤ w.heap.size) :
    Calls Tryd.prog 7 #[.agg #[.int .i64 z.kind, .int .u16 (z.who.i : Int), .int .u32 (z.who.k : Int), .int .u64 (z.view : Int), .int .u64 (z.slot : Int), .int .u64 (z.num : Int), .int .i64 z.hops, .int .u32 (z.b.r : Int), .int .u16 (z.b.p.i : Int), .int .u32 (z.b.p.k : Int), .int .u32 (z.a.r : Int), .int .u16 (z.a.p.i : Int), .int .u32 (z.a.p.k : Int), .bool z.has, .int .i64 z.y.kind, .int .u16 (z.y.p.i : Int), .int .u32 (z.y.p.k : Int), .int .u64 (z.y.num : Int), .int .u64 (z.y.vn : Int), .slice z.y.A z.y.n z.y.c, .int .u64 (z.y.x.id : Int), .slice z.y.x.A z.y.x.m z.y.x.c, .slice z.y.x.B z.y.x.d z.y.x.e, .slice z.y.x.C z.y.x.f z.y.x.g, .int .u64 (z.x.id : Int), .slice z.x.A z.x.m z.x.c, .slice z.x.B z.x.d z.x.e, .slice z.x.C z.x.f z.x.g, .slice z.A z.n z.c]] w (Great10P w z) := by
  have hbz : Below w.heap.size w (w.alloc (.cells #[.int .i64 z.kind, .int .u16 (z.who.i : Int), .int .u32 (z.who.k : Int), .int .u64 (z.view : Int), .int .u64 (z.slot : Int), .int .u64 (z.num : Int), .int .i64 z.hops, .int .u32 (z.b.r : Int), .int .u16 (z.b.p.i : Int), .int .u32 (z.b.p.k : Int), .int .u32 (z.a.r : Int), .int .u16 (z.a.p.i : Int), .int .u32 (z.a.p.k : Int), .bool z.has, .int .i64 z.y.kind, .int .u16 (z.y.p.i : Int), .int .u32 (z.y.p.k : Int), .int .u64 (z.y.num : Int), .int .u64 (z.y.vn : Int), .slice z.y.A z.y.n z.y.c, .int .u64 (z.y.x.id : Int), .slice z.y.x.A z.y.x.m z.y.x.c, .slice z.y.x.B z.y.x.d z.y.x.e, .slice z.y.x.C z.y.x.f z.y.x.g, .int .u64 (z.x.id : Int), .slice z.x.A z.x.m z.x.c, .slice z.x.B z.x.d z.x.e, .slice z.x.C z.x.f z.x.g, .slice z.A z.n z.c] 37)) := (Below.refl _ _).alloc (Nat.le_refl _) _
  have v0 := MAt10.mk_ w z
  have cg := great9_any z.y B (w.alloc (.cells #[.int .i64 z.kind, .int .u16 (z.who.i : Int), .int .u32 (z.who.k : Int), .int .u64 (z.view : Int), .int .u64 (z.slot : Int), .int .u64 (z.num : Int), .int .i64 z.hops, .int .u32 (z.b.r : Int), .int .u16 (z.b.p.i : Int), .int .u32 (z.b.p.k : Int), .int .u32 (z.a.r : Int), .int .u16 (z.a.p.i : Int), .int .u32 (z.a.p.k : Int), .bool z.has, .int .i64 z.y.kind, .int .u16 (z.y.p.i : Int), .int .u32 (z.y.p.k : Int), .int .u64 (z.y.num : Int), .int .u64 (z.y.vn : Int), .slice z.y.A z.y.n z.y.c, .int .u64 (z.y.x.id : Int), .slice z.y.x.A z.y.x.m z.y.x.c, .slice z.y.x.B z.y.x.d z.y.x.e, .slice z.y.x.C z.y.x.f z.y.x.g, .int .u64 (z.x.id : Int), .slice z.x.A z.x.m z.x.c, .slice z.x.B z.x.d z.x.e, .slice z.x.C z.x.f z.x.g, .slice z.A z.n z.c] 37)) (h.cm.below (hbz.mono hB)) (Nat.le_trans hB hbz.size)
  have CV := fun W (hb : Below w.heap.size w W) => great8_any z.x B W (h.vw.below (hb.mono hB)) (Nat.le_trans hB hb.size)
  clear h
  unfold Great9P at cg
  obtain ⟨j0, j1, j2, j3, j4, j5, j6, j7, j8, j9, j10, j11, j12, j13, j14, j15, j16, j17, j18, j19, j20, j21, j22, j23, j24, j25, j26, j27, j28⟩ := v0.cells
  have hlt := v0.lt
  by_cases hn : 400 < z.n
  · have z1 : decide ((400 : Int) < (z.n : Int)) = true := decide_eq_true (by omega)
    clear hn
    go_enter Tryd.func7, Tryd.ntmps7
    go_wp2
    go_ret
    exact ⟨true, rfl, (fun h => by cases h), hbz⟩
  · have z1 : decide ((400 : Int) < (z.n : Int)) = false := decide_eq_false (by omega)
    have hn2 : z.n ≤ 400 := by omega
    have HN := hide hn2
    clear hn hn2
    go_enter Tryd.func7, Tryd.ntmps7
    go_wp2_with fail
    refine cg.mono ?_
    rintro e w2 ⟨gb, rfl, hsm, hb⟩
    have hb2 := hbz.trans (hb.mono hbz.size)
    have v2 := v0.later hb
    have HS := hide hsm
    clear hsm hlt v0 j0 j1 j2 j3 j4 j5 j6 j7 j8 j9 j10 j11 j12 j13 j14 j15 j16 j17 j18 j19 j20 j21 j22 j23 j24 j25 j26 j27 j28
    obtain ⟨j0, j1, j2, j3, j4, j5, j6, j7, j8, j9, j10, j11, j12, j13, j14, j15, j16, j17, j18, j19, j20, j21, j22, j23, j24, j25, j26, j27, j28⟩ := v2.cells
    have hlt := v2.lt
    cases gb
    · have cv := CV w2 hb2
      unfold Great8P at cv
      go_wp2_with fail
      refine cv.mono ?_
      rintro e w3 ⟨gv, rfl, hsv, hb⟩
      have hb3 := hb2.trans (hb.mono hb2.size)
      have HV := hide hsv
      clear hsv CV
      go_wp2
      go_ret
      exact ⟨gv, rfl, fun h => ⟨HN.out, HS.out (by first | rfl | trivial), HV.out h⟩, hb3⟩
    · clear CV
      go_wp2
      go_ret
      exact ⟨true, rfl, (fun h => by cases h), hb2⟩
theorem nocmd_any (y : Cx) (B : Nat) (w : World) (t : Bool) (h : CxIn w B y) (hB : B ≤ w.heap.size) (ht : t = true ↔ y.m = zC 0 noV) :
    Calls Tryd.prog 32 #[.agg #[.int .i64 y.kind, .int .u16 (y.p.i : Int), .int .u32 (y.p.k : Int), .int .u64 (y.num : Int), .int .u64 (y.vn : Int), .slice y.A y.n y.c, .int .u64 (y.x.id : Int), .slice y.x.A y.x.m y.x.c, .slice y.x.B y.x.d y.x.e, .slice y.x.C y.x.f y.x.g]] w fun e w' => e = .returned (.bool t) ∧ Below w.heap.size w w' := by
  have hbz : Below w.heap.size w (w.alloc (.cells #[.int .i64 y.kind, .int .u16 (y.p.i : Int), .int .u32 (y.p.k : Int), .int .u64 (y.num : Int), .int .u64 (y.vn : Int), .slice y.A y.n y.c, .int .u64 (y.x.id : Int), .slice y.x.A y.x.m y.x.c, .slice y.x.B y.x.d y.x.e, .slice y.x.C y.x.f y.x.g] 35)) := (Below.refl _ _).alloc (Nat.le_refl _) _
  have v0 := CAt.mk_ w y
  have cs : Calls Tryd.prog 48 #[.agg #[.int .i64 y.kind, .int .u16 (y.p.i : Int), .int .u32 (y.p.k : Int), .int .u64 (y.num : Int), .int .u64 (y.vn : Int), .slice y.A y.n y.c, .int .u64 (y.x.id : Int), .slice y.x.A y.x.m y.x.c, .slice y.x.B y.x.d y.x.e, .slice y.x.C y.x.f y.x.g], .agg #[.int .i64 0, .int .u16 0, .int .u32 0, .int .u64 0, .int .u64 0, .slice none 0 0, .int .u64 0, .slice none 0 0, .slice none 0 0, .slice none 0 0]] (w.alloc (.cells #[.int .i64 y.kind, .int .u16 (y.p.i : Int), .int .u32 (y.p.k : Int), .int .u64 (y.num : Int), .int .u64 (y.vn : Int), .slice y.A y.n y.c, .int .u64 (y.x.id : Int), .slice y.x.A y.x.m y.x.c, .slice y.x.B y.x.d y.x.e, .slice y.x.C y.x.f y.x.g] 35)) (fun e w' => e = .returned (.bool t) ∧ Below (w.alloc (.cells #[.int .i64 y.kind, .int .u16 (y.p.i : Int), .int .u32 (y.p.k : Int), .int .u64 (y.num : Int), .int .u64 (y.vn : Int), .slice y.A y.n y.c, .int .u64 (y.x.id : Int), .slice y.x.A y.x.m y.x.c, .slice y.x.B y.x.d y.x.e, .slice y.x.C y.x.f y.x.g] 35)).heap.size (w.alloc (.cells #[.int .i64 y.kind, .int .u16 (y.p.i : Int), .int .u32 (y.p.k : Int), .int .u64 (y.num : Int), .int .u64 (y.vn : Int), .slice y.A y.n y.c, .int .u64 (y.x.id : Int), .slice y.x.A y.x.m y.x.c, .slice y.x.B y.x.d y.x.e, .slice y.x.C y.x.f y.x.g] 35)) w') :=
    rcsame_any y (zX 0 zeroX) B _ _ t (h.below (hbz.mono hB)) (zc_in _ (w.alloc (.cells #[.int .i64 y.kind, .int .u16 (y.p.i : Int), .int .u32 (y.p.k : Int), .int .u64 (y.num : Int), .int .u64 (y.vn : Int), .slice y.A y.n y.c, .int .u64 (y.x.id : Int), .slice y.x.A y.x.m y.x.c, .slice y.x.B y.x.d y.x.e, .slice y.x.C y.x.f y.x.g] 35)).heap.size) (Nat.le_trans hB hbz.size) (Nat.le_refl _) ht
  clear h ht
  obtain ⟨j0, j1, j2, j3, j4, j5, j6, j7, j8, j9⟩ := v0.cells
  go_enter Tryd.func32, Tryd.ntmps32
  go_wp2_with fail
  refine cs.mono ?_
  rintro e w2 ⟨rfl, hb⟩
  have hb2 := hbz.trans (hb.mono hbz.size)
  go_wp2
  go_ret
  exact ⟨rfl, hb2⟩
end Go.Proofs.YtjmkecaljkcoiaaDoor
namespace Go.Proofs.YtjmkecaljkcoiaaDoor
open Go.RowKit
set_option linter.unusedVariables false
set_option linter.unusedSimpArgs false

def truS (s : RS) : Bool × RS := if s.t = 0 then (if truE s.l = 0 then (truV s.l, ⟨s.l.drop 1, 0⟩) else (false, ⟨s.l, truE s.l⟩)) else (false, s)
/-- The ballot that stands there. -/
def blOf (l : List UInt8) : Bl := ⟨(getF l).1 % 4294967296, prOf (l.drop (getF l).2.1), Nat.mod_lt _ (by decide)⟩
def balS (s : RS) : Bl × RS := if s.t = 0 then (if balE s.l = 0 then (blOf s.l, ⟨(s.l.drop (getF s.l).2.1).drop (pidG (s.l.drop (getF s.l).2.1)).2.2.1, 0⟩) else (default, ⟨s.l, balE s.l⟩)) else (default, s)
theorem truS_stop {s : RS} (h : s.t ≠ 0) : truS s = (false, s) := if_neg h
theorem balS_stop {s : RS} (h : s.t ≠ 0) : balS s = (default, s) := if_neg h
theorem truS_len (s : RS) : (truS s).2.l.length ≤ s.l.length := by
  unfold truS; split
  · split
    · simp
    · exact Nat.le_refl _
  · exact Nat.le_refl _
theorem balS_len (s : RS) : (balS s).2.l.length ≤ s.l.length := by
  unfold balS; split
  · split
    · simp only [List.length_drop]; omega
    · exact Nat.le_refl _
  · exact Nat.le_refl _
theorem bal_fits {l : List UInt8} (h : balE l = 0) : (getF l).1 < 4294967296 := by
  unfold balE at h
  split at h
  · next h1 => have := numE_le h1; omega
  · next h1 => exact absurd h h1
/-- A message that has a kind alone. -/
def kindM (k : Nat) : Ms := ⟨(k : Int), default, 0, 0, 0, 0, default, default, false, zC 0 noV, noV, []⟩
def st0 (q : Nat) (x : Ms × RS) : Ms × RS := if q.testBit 0 then ({ x.1 with who := (pidQ x.2).1 }, (pidQ x.2).2) else x
def st1 (q : Nat) (x : Ms × RS) : Ms × RS := if q.testBit 1 then ({ x.1 with view := (numS 4611686018427387904 x.2).1 }, (numS 4611686018427387904 x.2).2) else x
def st2 (q : Nat) (x : Ms × RS) : Ms × RS := if q.testBit 2 then ({ x.1 with slot := (numS 4611686018427387904 x.2).1 }, (numS 4611686018427387904 x.2).2) else x
def st3 (q : Nat) (x : Ms × RS) : Ms × RS := if q.testBit 3 then ({ x.1 with b := (balS x.2).1 }, (balS x.2).2) else x
def st4 (q : Nat) (x : Ms × RS) : Ms × RS := if q.testBit 4 then ({ x.1 with num := (numS 4611686018427387904 x.2).1 }, (numS 4611686018427387904 x.2).2) else x
def st5 (q : Nat) (x : Ms × RS) : Ms × RS := if q.testBit 5 then ({ x.1 with hops := ((numS 4 x.2).1 : Nat) }, (numS 4 x.2).2) else x
def st6 (q : Nat) (x : Ms × RS) : Ms × RS := if q.testBit 6 then ({ x.1 with has := (truS x.2).1 }, (truS x.2).2) else x
def st7 (q : Nat) (x : Ms × RS) : Ms × RS := if q.testBit 7 then ({ x.1 with a := (balS x.2).1 }, (balS x.2).2) else x
noncomputable def st8 (q : Nat) (x : Ms × RS) : Ms × RS := if q.testBit 8 then ({ x.1 with c := (cmdS x.2).1 }, (cmdS x.2).2) else x
noncomputable def st9 (q : Nat) (x : Ms × RS) : Ms × RS := if q.testBit 9 then ({ x.1 with v := (viewS x.2).1 }, (viewS x.2).2) else x
def st10 (q : Nat) (x : Ms × RS) : Ms × RS := if q.testBit 10 then ({ x.1 with d := (bytS 200 x.2).1 }, (bytS 200 x.2).2) else x
/-- Ahead of what hangs on Has. -/
def getA (k : Nat) (s : RS) : Ms × RS := st6 (tabM k) (st5 (tabM k) (st4 (tabM k) (st3 (tabM k) (st2 (tabM k) (st1 (tabM k) (st0 (tabM k) (kindM k, s)))))))
/-- Behind it. -/
noncomputable def getB (q : Nat) (x : Ms × RS) : Ms × RS := st10 q (st9 q (st8 q (st7 q x)))
/-- What get answers, and where the Reader stands behind it. -/
noncomputable def getM (s : RS) : Ms × RS := getB (bitsM (numS 14 s).1 (getA (numS 14 s).1 (numS 14 s).2).1.has) (getA (numS 14 s).1 (numS 14 s).2)
open Classical in
/-- What Decode answers: a message, and what is told. -/
noncomputable def decM (l : List UInt8) : Ms × Nat :=
  if endF (getM ⟨l, 0⟩).2.l (getM ⟨l, 0⟩).2.t ≠ 0 then (kindM 0, endF (getM ⟨l, 0⟩).2.l (getM ⟨l, 0⟩).2.t) else if MayM (getM ⟨l, 0⟩).1 then ((getM ⟨l, 0⟩).1, 0) else (kindM 0, 5)
/-! ### What stands there is read -/
theorem truS_front (t : Bool) (l : List UInt8) : truS ⟨[if t then 1 else 0] ++ l, 0⟩ = (t, ⟨l, 0⟩) := by cases t <;> rfl
theorem balS_front (b : Bl) (t : List UInt8) : balS ⟨balL b ++ t, 0⟩ = (b, ⟨t, 0⟩) := by
  have hr := b.hr
  have e1 := numE_front b.r 4294967295 (pidL b.p.i b.p.k ++ t) (by omega) (by omega)
  have e2 := rest_front b.r (pidL b.p.i b.p.k ++ t) (by omega)
  have e3 := getF_short b.r (pidL b.p.i b.p.k ++ t) (by omega)
  have e4 := pidG_put b.p.i b.p.k t b.p.hi b.p.hk
  have e5 : balL b ++ t = shortL b.r ++ (pidL b.p.i b.p.k ++ t) := List.append_assoc _ _ _
  have hE : balE (shortL b.r ++ (pidL b.p.i b.p.k ++ t)) = 0 := by unfold balE; rw [if_pos e1, e2, e4]
  unfold balS
  simp only [if_true]
  rw [e5, if_pos hE, e2, e4]
  have e6 : blOf (shortL b.r ++ (pidL b.p.i b.p.k ++ t)) = b := by
    refine Bl.ext ?_ ?_
    · show (getF _).1 % 4294967296 = b.r
      rw [e3]; exact Nat.mod_eq_of_lt b.hr
    · show prOf _ = b.p
      rw [e2]
      exact Pr.ext (by show (pidG _).1 = _; rw [e4]) (by show (pidG _).2.1 = _; rw [e4])
  rw [e6]
  simp
theorem low_bit (kk : Nat) (t : Bool) {i : Nat} (hi : i < 7) : hasF (kk : Int) t i = (tabM kk).testBit i := by
  unfold hasF bitsM
  by_cases h : (kk : Int) = 5 ∧ t = true
  · rw [if_pos h, show kk = 5 by omega]
    have : i = 0 ∨ i = 1 ∨ i = 2 ∨ i = 3 ∨ i = 4 ∨ i = 5 ∨ i = 6 := by omega
    rcases this with rfl | rfl | rfl | rfl | rfl | rfl | rfl <;> decide
  · rw [if_neg h, Int.toNat_natCast]
theorem getM_front {m : Ms} (h : MayM m) (t : List UInt8) : getM ⟨formM m ++ t, 0⟩ = (m, ⟨t, 0⟩) := by
  obtain ⟨h0, hE⟩ := h
  obtain ⟨k, who, view, slot, num, hops, b, a, has, c, v, d⟩ := m
  have hk := bitsM_some.1 h0
  simp only at hk h0
  obtain ⟨kk, rfl⟩ := Int.eq_ofNat_of_zero_le (show 0 ≤ k by omega)
  obtain ⟨q, hq⟩ : ∃ q, q = bitsM (kk : Int) has := ⟨_, rfl⟩
  have s0 : ∀ T, st0 (tabM kk) (⟨(kk : Int), default, 0, 0, 0, 0, default, default, false, zC 0 noV, noV, []⟩, ⟨optF ⟨(kk : Int), who, view, slot, num, hops, b, a, has, c, v, d⟩ 0 ++ T, 0⟩) = (⟨(kk : Int), who, 0, 0, 0, 0, default, default, false, zC 0 noV, noV, []⟩, ⟨T, 0⟩) := by
    intro T
    have hh := hE 0 (by decide)
    unfold st0 optF
    rw [low_bit kk has (by decide)] at *
    cases hb : (tabM kk).testBit 0
    · have hz := hh.2 hb
      simp only [zeroF] at hz
      subst hz
      simp
    · have hr := hh.1 hb
      have e := pidQ_front who T
      simp only [if_true]
      erw [e]
  have s1 : ∀ T, st1 (tabM kk) (⟨(kk : Int), who, 0, 0, 0, 0, default, default, false, zC 0 noV, noV, []⟩, ⟨optF ⟨(kk : Int), who, view, slot, num, hops, b, a, has, c, v, d⟩ 1 ++ T, 0⟩) = (⟨(kk : Int), who, view, 0, 0, 0, default, default, false, zC 0 noV, noV, []⟩, ⟨T, 0⟩) := by
    intro T
    have hh := hE 1 (by decide)
    unfold st1 optF
    rw [low_bit kk has (by decide)] at *
    cases hb : (tabM kk).testBit 1
    · have hz := hh.2 hb
      simp only [zeroF] at hz
      subst hz
      simp
    · have hr := hh.1 hb
      have e := numS_front view 4611686018427387904 T (by have := hr; simp only [rightF] at this; omega) hr
      simp only [if_true]
      erw [e]
  have s2 : ∀ T, st2 (tabM kk) (⟨(kk : Int), who, view, 0, 0, 0, default, default, false, zC 0 noV, noV, []⟩, ⟨optF ⟨(kk : Int), who, view, slot, num, hops, b, a, has, c, v, d⟩ 2 ++ T, 0⟩) = (⟨(kk : Int), who, view, slot, 0, 0, default, default, false, zC 0 noV, noV, []⟩, ⟨T, 0⟩) := by
    intro T
    have hh := hE 2 (by decide)
    unfold st2 optF
    rw [low_bit kk has (by decide)] at *
    cases hb : (tabM kk).testBit 2
    · have hz := hh.2 hb
      simp only [zeroF] at hz
      subst hz
      simp
    · have hr := hh.1 hb
      have e := numS_front slot 4611686018427387904 T (by have := hr; simp only [rightF] at this; omega) hr
      simp only [if_true]
      erw [e]
  have s3 : ∀ T, st3 (tabM kk) (⟨(kk : Int), who, view, slot, 0, 0, default, default, false, zC 0 noV, noV, []⟩, ⟨optF ⟨(kk : Int), who, view, slot, num, hops, b, a, has, c, v, d⟩ 3 ++ T, 0⟩) = (⟨(kk : Int), who, view, slot, 0, 0, b, default, false, zC 0 noV, noV, []⟩, ⟨T, 0⟩) := by
    intro T
    have hh := hE 3 (by decide)
    unfold st3 optF
    rw [low_bit kk has (by decide)] at *
    cases hb : (tabM kk).testBit 3
    · have hz := hh.2 hb
      simp only [zeroF] at hz
      subst hz
      simp
    · have hr := hh.1 hb
      have e := balS_front b T
      simp only [if_true]
      erw [e]
  have s4 : ∀ T, st4 (tabM kk) (⟨(kk : Int), who, view, slot, 0, 0, b, default, false, zC 0 noV, noV, []⟩, ⟨optF ⟨(kk : Int), who, view, slot, num, hops, b, a, has, c, v, d⟩ 4 ++ T, 0⟩) = (⟨(kk : Int), who, view, slot, num, 0, b, default, false, zC 0 noV, noV, []⟩, ⟨T, 0⟩) := by
    intro T
    have hh := hE 4 (by decide)
    unfold st4 optF
    rw [low_bit kk has (by decide)] at *
    cases hb : (tabM kk).testBit 4
    · have hz := hh.2 hb
      simp only [zeroF] at hz
      subst hz
      simp
    · have hr := hh.1 hb
      have e := numS_front num 4611686018427387904 T (by have := hr; simp only [rightF] at this; omega) hr
      simp only [if_true]
      erw [e]
  have s5 : ∀ T, st5 (tabM kk) (⟨(kk : Int), who, view, slot, num, 0, b, default, false, zC 0 noV, noV, []⟩, ⟨optF ⟨(kk : Int), who, view, slot, num, hops, b, a, has, c, v, d⟩ 5 ++ T, 0⟩) = (⟨(kk : Int), who, view, slot, num, hops, b, default, false, zC 0 noV, noV, []⟩, ⟨T, 0⟩) := by
    intro T
    have hh := hE 5 (by decide)
    unfold st5 optF
    rw [low_bit kk has (by decide)] at *
    cases hb : (tabM kk).testBit 5
    · have hz := hh.2 hb
      simp only [zeroF] at hz
      subst hz
      simp
    · have hr := hh.1 hb
      have e := numS_front hops.toNat 4 T (by have := hr; simp only [rightF] at this; omega) (by have := hr; simp only [rightF] at this; omega)
      have e2 : fldF ⟨(kk : Int), who, view, slot, num, hops, b, a, has, c, v, d⟩ 5 ++ T = shortL hops.toNat ++ T := rfl
      simp only [if_true]
      rw [e2, e]
      simp only [rightF] at hr
      rw [show ((hops.toNat : Nat) : Int) = hops by omega]
  have s6 : ∀ T, st6 (tabM kk) (⟨(kk : Int), who, view, slot, num, hops, b, default, false, zC 0 noV, noV, []⟩, ⟨optF ⟨(kk : Int), who, view, slot, num, hops, b, a, has, c, v, d⟩ 6 ++ T, 0⟩) = (⟨(kk : Int), who, view, slot, num, hops, b, default, has, zC 0 noV, noV, []⟩, ⟨T, 0⟩) := by
    intro T
    have hh := hE 6 (by decide)
    unfold st6 optF
    rw [low_bit kk has (by decide)] at *
    cases hb : (tabM kk).testBit 6
    · have hz := hh.2 hb
      simp only [zeroF] at hz
      subst hz
      simp
    · have hr := hh.1 hb
      have e := truS_front has T
      simp only [if_true]
      erw [e]
  have s7 : ∀ T, st7 q (⟨(kk : Int), who, view, slot, num, hops, b, default, has, zC 0 noV, noV, []⟩, ⟨optF ⟨(kk : Int), who, view, slot, num, hops, b, a, has, c, v, d⟩ 7 ++ T, 0⟩) = (⟨(kk : Int), who, view, slot, num, hops, b, a, has, zC 0 noV, noV, []⟩, ⟨T, 0⟩) := by
    intro T
    have hh := hE 7 (by decide)
    unfold st7 optF
    rw [show hasF (kk : Int) has 7 = q.testBit 7 from by rw [hq]; rfl] at *
    cases hb : q.testBit 7
    · have hz := hh.2 hb
      simp only [zeroF] at hz
      subst hz
      simp
    · have hr := hh.1 hb
      have e := balS_front a T
      simp only [if_true]
      erw [e]
  have s8 : ∀ T, st8 q (⟨(kk : Int), who, view, slot, num, hops, b, a, has, zC 0 noV, noV, []⟩, ⟨optF ⟨(kk : Int), who, view, slot, num, hops, b, a, has, c, v, d⟩ 8 ++ T, 0⟩) = (⟨(kk : Int), who, view, slot, num, hops, b, a, has, c, noV, []⟩, ⟨T, 0⟩) := by
    intro T
    have hh := hE 8 (by decide)
    unfold st8 optF
    rw [show hasF (kk : Int) has 8 = q.testBit 8 from by rw [hq]; rfl] at *
    cases hb : q.testBit 8
    · have hz := hh.2 hb
      simp only [zeroF] at hz
      subst hz
      simp
    · have hr := hh.1 hb
      have e := cmdS_front hr T
      simp only [if_true]
      erw [e]
  have s9 : ∀ T, st9 q (⟨(kk : Int), who, view, slot, num, hops, b, a, has, c, noV, []⟩, ⟨optF ⟨(kk : Int), who, view, slot, num, hops, b, a, has, c, v, d⟩ 9 ++ T, 0⟩) = (⟨(kk : Int), who, view, slot, num, hops, b, a, has, c, v, []⟩, ⟨T, 0⟩) := by
    intro T
    have hh := hE 9 (by decide)
    unfold st9 optF
    rw [show hasF (kk : Int) has 9 = q.testBit 9 from by rw [hq]; rfl] at *
    cases hb : q.testBit 9
    · have hz := hh.2 hb
      simp only [zeroF] at hz
      subst hz
      simp
    · have hr := hh.1 hb
      have e := viewS_front hr T
      simp only [if_true]
      erw [e]
  have s10 : ∀ T, st10 q (⟨(kk : Int), who, view, slot, num, hops, b, a, has, c, v, []⟩, ⟨optF ⟨(kk : Int), who, view, slot, num, hops, b, a, has, c, v, d⟩ 10 ++ T, 0⟩) = (⟨(kk : Int), who, view, slot, num, hops, b, a, has, c, v, d⟩, ⟨T, 0⟩) := by
    intro T
    have hh := hE 10 (by decide)
    unfold st10 optF
    rw [show hasF (kk : Int) has 10 = q.testBit 10 from by rw [hq]; rfl] at *
    cases hb : q.testBit 10
    · have hz := hh.2 hb
      simp only [zeroF] at hz
      subst hz
      simp
    · have hr := hh.1 hb
      simp only [rightF] at hr
      have e := bytS_front d T 200 hr (by omega)
      have e2 : fldF ⟨(kk : Int), who, view, slot, num, hops, b, a, has, c, v, d⟩ 10 ++ T = shortL d.length ++ (d ++ T) := List.append_assoc _ _ _
      simp only [if_true]
      rw [e2, e]
  unfold getM formM
  rw [List.append_assoc, Int.toNat_natCast, numS_front _ _ _ (by omega) (by omega)]
  dsimp only
  have hA : ∀ T, getA kk ⟨(optF ⟨(kk : Int), who, view, slot, num, hops, b, a, has, c, v, d⟩ 0 ++ (optF ⟨(kk : Int), who, view, slot, num, hops, b, a, has, c, v, d⟩ 1 ++ (optF ⟨(kk : Int), who, view, slot, num, hops, b, a, has, c, v, d⟩ 2 ++ (optF ⟨(kk : Int), who, view, slot, num, hops, b, a, has, c, v, d⟩ 3 ++ (optF ⟨(kk : Int), who, view, slot, num, hops, b, a, has, c, v, d⟩ 4 ++ (optF ⟨(kk : Int), who, view, slot, num, hops, b, a, has, c, v, d⟩ 5 ++ (optF ⟨(kk : Int), who, view, slot, num, hops, b, a, has, c, v, d⟩ 6))))))) ++ T, 0⟩ = (⟨(kk : Int), who, view, slot, num, hops, b, default, has, zC 0 noV, noV, []⟩, ⟨T, 0⟩) := by
    intro T
    unfold getA kindM
    simp only [List.append_assoc]
    rw [s0, s1, s2, s3, s4, s5, s6]
  have hB : ∀ T, getB q (⟨(kk : Int), who, view, slot, num, hops, b, default, has, zC 0 noV, noV, []⟩, ⟨(optF ⟨(kk : Int), who, view, slot, num, hops, b, a, has, c, v, d⟩ 7 ++ (optF ⟨(kk : Int), who, view, slot, num, hops, b, a, has, c, v, d⟩ 8 ++ (optF ⟨(kk : Int), who, view, slot, num, hops, b, a, has, c, v, d⟩ 9 ++ (optF ⟨(kk : Int), who, view, slot, num, hops, b, a, has, c, v, d⟩ 10)))) ++ T, 0⟩) = (⟨(kk : Int), who, view, slot, num, hops, b, a, has, c, v, d⟩, ⟨T, 0⟩) := by
    intro T
    unfold getB
    simp only [List.append_assoc]
    rw [s7, s8, s9, s10]
  have e : (optF ⟨(kk : Int), who, view, slot, num, hops, b, a, has, c, v, d⟩ 0 ++ (optF ⟨(kk : Int), who, view, slot, num, hops, b, a, has, c, v, d⟩ 1 ++ (optF ⟨(kk : Int), who, view, slot, num, hops, b, a, has, c, v, d⟩ 2 ++ (optF ⟨(kk : Int), who, view, slot, num, hops, b, a, has, c, v, d⟩ 3 ++ (optF ⟨(kk : Int), who, view, slot, num, hops, b, a, has, c, v, d⟩ 4 ++ (optF ⟨(kk : Int), who, view, slot, num, hops, b, a, has, c, v, d⟩ 5 ++ (optF ⟨(kk : Int), who, view, slot, num, hops, b, a, has, c, v, d⟩ 6 ++ (optF ⟨(kk : Int), who, view, slot, num, hops, b, a, has, c, v, d⟩ 7 ++ (optF ⟨(kk : Int), who, view, slot, num, hops, b, a, has, c, v, d⟩ 8 ++ (optF ⟨(kk : Int), who, view, slot, num, hops, b, a, has, c, v, d⟩ 9 ++ (optF ⟨(kk : Int), who, view, slot, num, hops, b, a, has, c, v, d⟩ 10))))))))))) ++ t = (optF ⟨(kk : Int), who, view, slot, num, hops, b, a, has, c, v, d⟩ 0 ++ (optF ⟨(kk : Int), who, view, slot, num, hops, b, a, has, c, v, d⟩ 1 ++ (optF ⟨(kk : Int), who, view, slot, num, hops, b, a, has, c, v, d⟩ 2 ++ (optF ⟨(kk : Int), who, view, slot, num, hops, b, a, has, c, v, d⟩ 3 ++ (optF ⟨(kk : Int), who, view, slot, num, hops, b, a, has, c, v, d⟩ 4 ++ (optF ⟨(kk : Int), who, view, slot, num, hops, b, a, has, c, v, d⟩ 5 ++ (optF ⟨(kk : Int), who, view, slot, num, hops, b, a, has, c, v, d⟩ 6))))))) ++ ((optF ⟨(kk : Int), who, view, slot, num, hops, b, a, has, c, v, d⟩ 7 ++ (optF ⟨(kk : Int), who, view, slot, num, hops, b, a, has, c, v, d⟩ 8 ++ (optF ⟨(kk : Int), who, view, slot, num, hops, b, a, has, c, v, d⟩ 9 ++ (optF ⟨(kk : Int), who, view, slot, num, hops, b, a, has, c, v, d⟩ 10)))) ++ t) := by simp only [List.append_assoc]
  rw [e, hA]
  dsimp only
  rw [← hq, hB]
theorem decM_err {l : List UInt8} (h : endF (getM ⟨l, 0⟩).2.l (getM ⟨l, 0⟩).2.t ≠ 0) : decM l = (kindM 0, endF (getM ⟨l, 0⟩).2.l (getM ⟨l, 0⟩).2.t) := by unfold decM; rw [if_pos h]
theorem decM_yes {l : List UInt8} (h : endF (getM ⟨l, 0⟩).2.l (getM ⟨l, 0⟩).2.t = 0) (hm : MayM (getM ⟨l, 0⟩).1) : decM l = ((getM ⟨l, 0⟩).1, 0) := by unfold decM; rw [if_neg (by rw [h]; simp), if_pos hm]
theorem decM_no {l : List UInt8} (h : endF (getM ⟨l, 0⟩).2.l (getM ⟨l, 0⟩).2.t = 0) (hm : ¬ MayM (getM ⟨l, 0⟩).1) : decM l = (kindM 0, 5) := by unfold decM; rw [if_neg (by rw [h]; simp), if_neg hm]
theorem decM_front {m : Ms} (h : MayM m) : decM (formM m) = (m, 0) := by
  have e := getM_front h []
  rw [List.append_nil] at e
  unfold decM
  rw [e]
  simp [endF, h]
theorem decM_more {m : Ms} (h : MayM m) (c : UInt8) : decM (formM m ++ [c]) = (kindM 0, 5) := by
  unfold decM
  rw [getM_front h [c]]
  simp [endF]
end Go.Proofs.YtjmkecaljkcoiaaDoor
