import Derived.Laws.IdiomStrings
import Derived.Test.YtjmkecaljkcoiaaGreatDoorQMsg6
import Derived.Test.YtjmkecaljkcoiaaGreatDoorQCmd7
namespace Go.Proofs.YtjmkecaljkcoiaaGreatDoor
open Go.RowKit Go.Maps
set_option linter.unusedVariables false
set_option linter.unusedSimpArgs false
def tx10 (l : List UInt8) : ByteArray := ⟨l.toArray⟩
theorem tx10_size (l : List UInt8) : (tx10 l).size = l.length := by show l.toArray.size = l.length; simp
theorem char10 (l : List UInt8) (k : Nat) (h : k < l.length) (W : World) :
    (Instr.index 9 (.string (tx10 l)) (.int .i64 k)).run Tryz.prog W = .ok (.int .u8 (l[k].toNat : Int)) W := by
  have hs : k < (tx10 l).size := by rw [tx10_size]; exact h
  rw [run_index_string W 9 (tx10 l) .i64 _ Tryz.underlying9, dif_pos ⟨by omega, by omega⟩]
  rfl
def fldT : Nat → List UInt8
  | 1 => [119, 118, 110, 104, 121] | 2 => [115, 104, 99] | 3 => [115] | 4 => [115, 98] | 5 => [115, 98, 112] | 6 => [115, 98, 99] | 7 => [115, 98] | 8 => [115, 98] | 9 => [118, 104] | 10 => [119, 118, 110, 104] | 11 => [119, 104] | 12 => [115, 86, 121] | 13 => [119, 104] | 14 => [118] | _ => []
theorem fldT_len (k : Nat) : (fldT k).length ≤ 5 := by unfold fldT; split <;> decide
def fldI (k : Int) : List UInt8 := fldT k.toNat
theorem fldT_no {k : Nat} (h : ¬ (1 ≤ k ∧ k ≤ 14)) : fldT k = [] := by
  unfold fldT
  split <;> first | (exfalso; exact h (by decide)) | rfl
theorem fldI_no {k : Int} (h : ¬ (1 ≤ k ∧ k ≤ 14)) : fldI k = [] := fldT_no (by omega)
theorem fourteen {k : Int} (h : 1 ≤ k ∧ k ≤ 14) : k = 1 ∨ k = 2 ∨ k = 3 ∨ k = 4 ∨ k = 5 ∨ k = 6 ∨ k = 7 ∨ k = 8 ∨ k = 9 ∨ k = 10 ∨ k = 11 ∨ k = 12 ∨ k = 13 ∨ k = 14 := by omega
set_option maxRecDepth 100000 in
set_option maxHeartbeats 1000000 in
theorem fields10_any (k : Int) (w : World) (h0 : -9223372036854775808 ≤ k) (h1 : k ≤ 9223372036854775807) :
    Calls Tryz.prog 54 #[.int .i64 k] w fun e w' => e = .returned (.string (tx10 (fldI k))) ∧ Below w.heap.size w w' := by
  by_cases hlo : k < 1
  · have z1 : decide (k < 1) = true := decide_eq_true hlo
    rw [fldI_no (by omega)]
    clear hlo
    go_enter Tryz.func54, Tryz.ntmps54
    go_wp2
    go_ret
    exact ⟨rfl, Below.refl _ _⟩
  have z1 : decide (k < 1) = false := decide_eq_false hlo
  by_cases hhi : 14 < k
  · have z2 : decide (14 < k) = true := decide_eq_true hhi
    rw [fldI_no (by omega)]
    clear hlo hhi
    go_enter Tryz.func54, Tryz.ntmps54
    go_wp2
    go_ret
    exact ⟨rfl, Below.refl _ _⟩
  clear z1
  rcases fourteen (k := k) ⟨by omega, by omega⟩ with rfl | rfl | rfl | rfl | rfl | rfl | rfl | rfl | rfl | rfl | rfl | rfl | rfl | rfl
  all_goals
    clear hlo hhi h0 h1
    go_enter Tryz.func54, Tryz.ntmps54
    go_wp2
    go_ret
    exact ⟨rfl, (Below.refl _ _).alloc (Nat.le_refl _) _⟩
set_option maxRecDepth 100000 in
theorem has10_any (c : UInt8) (l : List UInt8) (w : World) (b : Bool) (hs : l.length ≤ 2000) (hb : b = decide (c ∈ l)) :
    Calls Tryz.prog 72 #[.string (tx10 l), .int .u8 c.toNat] w fun e w' => e = .returned (.bool b) ∧ w = w' := by
  have hz := tx10_size l
  have hch := fun (k : Nat) (hk : k < l.length) W => char10 l k hk W
  have HC := hide hch
  have HB := hide hb
  clear hch hb
  go_enter Tryz.func72, Tryz.ntmps72
  go_wp2
  go_loopw [5] (fun i wr => ∃ k : Nat, k ≤ l.length ∧ i = .int .i64 k ∧ (∀ x ∈ l.take k, x ≠ c) ∧ wr = w) (fun i _ => l.length - (intOf i).toNat)
  case atStart => exact ⟨0, Nat.zero_le _, rfl, fun x hx => by simp at hx, rfl⟩
  case round =>
    obtain ⟨k, hk, rfl, hno, rfl⟩ := hrel
    by_cases hlt : k < l.length
    · have hc := HC.out k hlt
      have hst : l[k] ≠ c → ∀ x ∈ l.take (k + 1), x ≠ c := fun h x hx => by
        rw [List.take_succ_eq_append_getElem hlt, List.mem_append, List.mem_singleton] at hx
        exact hx.elim (hno x) (fun e => e ▸ h)
      have hyes : l[k] = c → b = true := fun h => by rw [HB.out, decide_eq_true_eq, ← h]; exact List.getElem_mem hlt
      have heq : l[k] = c ↔ l[k].toNat = c.toNat := UInt8.toNat_inj.symm
      obtain ⟨y, hy⟩ : ∃ y, y = l[k].toNat := ⟨_, rfl⟩
      obtain ⟨cc, hcc⟩ : ∃ y, y = c.toNat := ⟨_, rfl⟩
      rw [← hy] at hc
      rw [← hy, ← hcc] at heq
      have hltz : k < (tx10 l).size := by omega
      by_cases hyc : y = cc
      · obtain rfl := hyes (heq.2 hyc)
        have u1 : ((y : Int) == (cc : Int)) = true := by rw [hyc]; simp
        rw [← hcc]
        clear hst heq hyc hcc hy hno hyes
        go_wp2
        go_ret
        exact ⟨rfl, rfl⟩
      · have hst2 := hst (fun h => hyc (heq.1 h))
        have u1 : ((y : Int) == (cc : Int)) = false := by simp only [beq_eq_false_iff_ne, ne_eq]; omega
        have HS := hide hst2
        rw [← hcc]
        clear hst heq hyc hst2 hno hyes
        go_wp2_with fail
        go_roundw
        case rel => exact ⟨k + 1, by omega, by go_num, HS.out, by first | rfl | trivial⟩
        case measure => simp [intOf]; omega
    · have hf : b = false := by
        rw [HB.out, decide_eq_false_iff_not]
        intro hc
        exact hno c (by rw [List.take_of_length_le (by omega)]; exact hc) rfl
      have HF := hide hf
      clear hf hno
      go_wp2
      go_ret
      exact ⟨ret_bool HF.out.symm, rfl⟩
def Great10P (w : World) (z : Mx) (e : Ending) (w' : World) : Prop := ∃ b : Bool, e = .returned (.bool b) ∧ (b = false → MSmall z) ∧ Below w.heap.size w w'
set_option maxRecDepth 100000 in
theorem great10_any (z : Mx) (B : Nat) (w : World) (h : MxIn w B z) (hB : B ≤ w.heap.size) :
    Calls Tryz.prog 20 #[.agg #[.int .i64 z.kind, .int .u16 z.who.i, .int .u32 z.who.k, .int .u64 z.view, .int .u64 z.slot, .int .u64 z.num, .int .i64 z.hops, .int .u32 z.b.r, .int .u16 z.b.p.i, .int .u32 z.b.p.k, .int .u32 z.a.r, .int .u16 z.a.p.i, .int .u32 z.a.p.k, .bool z.has, .int .i64 z.y.kind, .int .u16 z.y.p.i, .int .u32 z.y.p.k, .int .u64 z.y.num, .int .u64 z.y.vn, .slice z.y.A z.y.n z.y.c, .int .u64 z.y.x.id, .slice z.y.x.A z.y.x.m z.y.x.c, .slice z.y.x.B z.y.x.d z.y.x.e, .slice z.y.x.C z.y.x.f z.y.x.g, .int .u64 z.x.id, .slice z.x.A z.x.m z.x.c, .slice z.x.B z.x.d z.x.e, .slice z.x.C z.x.f z.x.g, .slice z.A z.n z.c]] w (Great10P w z) := by
  have hbz : Below w.heap.size w (w.alloc (.cells #[.int .i64 z.kind, .int .u16 z.who.i, .int .u32 z.who.k, .int .u64 z.view, .int .u64 z.slot, .int .u64 z.num, .int .i64 z.hops, .int .u32 z.b.r, .int .u16 z.b.p.i, .int .u32 z.b.p.k, .int .u32 z.a.r, .int .u16 z.a.p.i, .int .u32 z.a.p.k, .bool z.has, .int .i64 z.y.kind, .int .u16 z.y.p.i, .int .u32 z.y.p.k, .int .u64 z.y.num, .int .u64 z.y.vn, .slice z.y.A z.y.n z.y.c, .int .u64 z.y.x.id, .slice z.y.x.A z.y.x.m z.y.x.c, .slice z.y.x.B z.y.x.d z.y.x.e, .slice z.y.x.C z.y.x.f z.y.x.g, .int .u64 z.x.id, .slice z.x.A z.x.m z.x.c, .slice z.x.B z.x.d z.x.e, .slice z.x.C z.x.f z.x.g, .slice z.A z.n z.c] 50)) := (Below.refl _ _).alloc (Nat.le_refl _) _
  have v0 := MAt10.mk_ w z
  have cg := great9_any z.y B (w.alloc (.cells #[.int .i64 z.kind, .int .u16 z.who.i, .int .u32 z.who.k, .int .u64 z.view, .int .u64 z.slot, .int .u64 z.num, .int .i64 z.hops, .int .u32 z.b.r, .int .u16 z.b.p.i, .int .u32 z.b.p.k, .int .u32 z.a.r, .int .u16 z.a.p.i, .int .u32 z.a.p.k, .bool z.has, .int .i64 z.y.kind, .int .u16 z.y.p.i, .int .u32 z.y.p.k, .int .u64 z.y.num, .int .u64 z.y.vn, .slice z.y.A z.y.n z.y.c, .int .u64 z.y.x.id, .slice z.y.x.A z.y.x.m z.y.x.c, .slice z.y.x.B z.y.x.d z.y.x.e, .slice z.y.x.C z.y.x.f z.y.x.g, .int .u64 z.x.id, .slice z.x.A z.x.m z.x.c, .slice z.x.B z.x.d z.x.e, .slice z.x.C z.x.f z.x.g, .slice z.A z.n z.c] 50)) (h.cm.below (hbz.mono hB)) (Nat.le_trans hB hbz.size)
  have CV := fun W (hb : Below w.heap.size w W) => great8_any z.x B W (h.vw.below (hb.mono hB)) (Nat.le_trans hB hb.size)
  clear h
  unfold Great9P at cg
  obtain ⟨j0, j1, j2, j3, j4, j5, j6, j7, j8, j9, j10, j11, j12, j13, j14, j15, j16, j17, j18, j19, j20, j21, j22, j23, j24, j25, j26, j27, j28⟩ := v0.cells
  have hlt := v0.lt
  by_cases hn : 400 < z.n
  · have z1 : decide ((400 : Int) < (z.n : Int)) = true := decide_eq_true (by omega)
    clear hn
    go_enter Tryz.func20, Tryz.ntmps20
    go_wp2
    go_ret
    exact ⟨true, rfl, (fun h => by cases h), hbz⟩
  · have z1 : decide ((400 : Int) < (z.n : Int)) = false := decide_eq_false (by omega)
    have hn2 : z.n ≤ 400 := by omega
    have HN := hide hn2
    clear hn hn2
    go_enter Tryz.func20, Tryz.ntmps20
    go_wp2_with fail
    refine cg.mono ?_
    rintro e w2 ⟨gb, rfl, hsm, hb⟩
    have hb2 := hbz.trans (hb.mono hbz.size)
    have v2 := v0.later hb
    have HS := hide hsm
    clear hsm hlt v0 j0 j1 j2 j3 j4 j5 j6 j7 j8 j9 j10 j11 j12 j13 j14 j15 j16 j17 j18 j19 j20 j21 j22 j23 j24 j25 j26 j27 j28
    obtain ⟨j0, j1, j2, j3, j4, j5, j6, j7, j8, j9, j10, j11, j12, j13, j14, j15, j16, j17, j18, j19, j20, j21, j22, j23, j24, j25, j26, j27, j28⟩ := v2.cells
    have hlt := v2.lt
    cases gb
    · have cv := CV w2 hb2
      unfold Great8P at cv
      go_wp2_with fail
      refine cv.mono ?_
      rintro e w3 ⟨gv, rfl, hsv, hb⟩
      have hb3 := hb2.trans (hb.mono hb2.size)
      have HV := hide hsv
      clear hsv CV
      go_wp2
      go_ret
      exact ⟨gv, rfl, fun h => ⟨HN.out, HS.out (by first | rfl | trivial), HV.out h⟩, hb3⟩
    · clear CV
      go_wp2
      go_ret
      exact ⟨true, rfl, (fun h => by cases h), hb2⟩
theorem nocmd_any (y : Cx) (B : Nat) (w : World) (t : Bool) (h : CxIn w B y) (hB : B ≤ w.heap.size) (ht : t = true ↔ y.m = zC 0 noV) :
    Calls Tryz.prog 119 #[.agg #[.int .i64 y.kind, .int .u16 y.p.i, .int .u32 y.p.k, .int .u64 y.num, .int .u64 y.vn, .slice y.A y.n y.c, .int .u64 y.x.id, .slice y.x.A y.x.m y.x.c, .slice y.x.B y.x.d y.x.e, .slice y.x.C y.x.f y.x.g]] w fun e w' => e = .returned (.bool t) ∧ Below w.heap.size w w' := by
  have hbz : Below w.heap.size w (w.alloc (.cells #[.int .i64 y.kind, .int .u16 y.p.i, .int .u32 y.p.k, .int .u64 y.num, .int .u64 y.vn, .slice y.A y.n y.c, .int .u64 y.x.id, .slice y.x.A y.x.m y.x.c, .slice y.x.B y.x.d y.x.e, .slice y.x.C y.x.f y.x.g] 48)) := (Below.refl _ _).alloc (Nat.le_refl _) _
  have v0 := CAt.mk_ w y
  have cs : Calls Tryz.prog 63 #[.agg #[.int .i64 y.kind, .int .u16 y.p.i, .int .u32 y.p.k, .int .u64 y.num, .int .u64 y.vn, .slice y.A y.n y.c, .int .u64 y.x.id, .slice y.x.A y.x.m y.x.c, .slice y.x.B y.x.d y.x.e, .slice y.x.C y.x.f y.x.g], .agg #[.int .i64 0, .int .u16 0, .int .u32 0, .int .u64 0, .int .u64 0, .slice none 0 0, .int .u64 0, .slice none 0 0, .slice none 0 0, .slice none 0 0]] (w.alloc (.cells #[.int .i64 y.kind, .int .u16 y.p.i, .int .u32 y.p.k, .int .u64 y.num, .int .u64 y.vn, .slice y.A y.n y.c, .int .u64 y.x.id, .slice y.x.A y.x.m y.x.c, .slice y.x.B y.x.d y.x.e, .slice y.x.C y.x.f y.x.g] 48)) (fun e w' => e = .returned (.bool t) ∧ Below (w.alloc (.cells #[.int .i64 y.kind, .int .u16 y.p.i, .int .u32 y.p.k, .int .u64 y.num, .int .u64 y.vn, .slice y.A y.n y.c, .int .u64 y.x.id, .slice y.x.A y.x.m y.x.c, .slice y.x.B y.x.d y.x.e, .slice y.x.C y.x.f y.x.g] 48)).heap.size (w.alloc (.cells #[.int .i64 y.kind, .int .u16 y.p.i, .int .u32 y.p.k, .int .u64 y.num, .int .u64 y.vn, .slice y.A y.n y.c, .int .u64 y.x.id, .slice y.x.A y.x.m y.x.c, .slice y.x.B y.x.d y.x.e, .slice y.x.C y.x.f y.x.g] 48)) w') :=
    rcsame_any y (zX 0 zeroX) B _ _ t (h.below (hbz.mono hB)) (zc_in _ (w.alloc (.cells #[.int .i64 y.kind, .int .u16 y.p.i, .int .u32 y.p.k, .int .u64 y.num, .int .u64 y.vn, .slice y.A y.n y.c, .int .u64 y.x.id, .slice y.x.A y.x.m y.x.c, .slice y.x.B y.x.d y.x.e, .slice y.x.C y.x.f y.x.g] 48)).heap.size) (Nat.le_trans hB hbz.size) (Nat.le_refl _) ht
  clear h ht
  obtain ⟨j0, j1, j2, j3, j4, j5, j6, j7, j8, j9⟩ := v0.cells
  go_enter Tryz.func119, Tryz.ntmps119
  go_wp2_with fail
  refine cs.mono ?_
  rintro e w2 ⟨rfl, hb⟩
  have hb2 := hbz.trans (hb.mono hbz.size)
  go_wp2
  go_ret
  exact ⟨rfl, hb2⟩
end Go.Proofs.YtjmkecaljkcoiaaGreatDoor
