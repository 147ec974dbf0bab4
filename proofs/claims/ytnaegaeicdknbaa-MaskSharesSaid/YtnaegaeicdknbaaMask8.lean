/-
  Layer 5: Ranks.
-/
import Derived.Test.YtnaegaeicdknbaaMask4
namespace Go.Proofs.Ytnaegaeicdknbaa
open Go.RowKit
set_option linter.unusedVariables false
set_option linter.unusedSimpArgs false

/-- The ranks below k that are in the mask, rising. -/
def rkN (a b k : Nat) : List Nat := (List.range k).filter (bitM a b)
def rkTo (a b k : Nat) : List Int := (rkN a b k).map Int.ofNat
theorem rkN_succ (a b k : Nat) : rkN a b (k + 1) = rkN a b k ++ (if bitM a b k then [k] else []) := by
  unfold rkN
  rw [List.range_succ, List.filter_append]
  congr 1
  simp only [List.filter_cons, List.filter_nil]
theorem rkTo_zero (a b : Nat) : rkTo a b 0 = [] := rfl
theorem rkTo_yes {a b k : Nat} (h : bitM a b k = true) : rkTo a b (k + 1) = rkTo a b k ++ [(k : Int)] := by
  unfold rkTo; rw [rkN_succ, if_pos h, List.map_append]; rfl
theorem rkTo_no {a b k : Nat} (h : bitM a b k = false) : rkTo a b (k + 1) = rkTo a b k := by
  unfold rkTo; rw [rkN_succ, if_neg (by simp [h]), List.append_nil]
theorem rkTo_len (a b k : Nat) : (rkTo a b k).length = cnt (bitM a b) k := by
  induction k with
  | zero => rfl
  | succ k ih =>
    cases h : bitM a b k
    · rw [rkTo_no h, ih, cnt_no h]
    · rw [rkTo_yes h, List.length_append, ih, cnt_yes h]; rfl
theorem rkN_rising (a b k : Nat) : (rkN a b k).Pairwise (· < ·) := List.Pairwise.filter _ List.pairwise_lt_range
theorem rkN_mem (a b k r : Nat) : r ∈ rkN a b k ↔ r < k ∧ bitM a b r = true := by
  simp [rkN]
theorem rkTo_at {a b k j : Nat} (h : j < (rkTo a b k).length) : ∃ r : Nat, (rkTo a b k)[j] = (r : Int) ∧ r < k ∧ bitM a b r = true := by
  have h' : j < (rkN a b k).length := by simpa [rkTo] using h
  have hm := (rkN_mem a b k _).1 (List.getElem_mem h')
  exact ⟨(rkN a b k)[j], by simp [rkTo], hm.1, hm.2⟩
theorem rkTo_lt {a b k j : Nat} (h : j + 1 < (rkTo a b k).length) : (rkTo a b k)[j] < (rkTo a b k)[j + 1] := by
  have h' : j + 1 < (rkN a b k).length := by simpa [rkTo] using h
  have := List.pairwise_iff_getElem.1 (rkN_rising a b k) j (j + 1) (by omega) h' (by omega)
  simp only [rkTo, List.getElem_map]
  exact Int.ofNat_lt.2 this
theorem rk_ofP (a b i : Nat) (h : i < 128) : ofP (rkTo a b 128) i = bitM a b i := by
  unfold ofP
  rw [Bool.eq_iff_iff, decide_eq_true_eq]
  constructor
  · intro hm
    obtain ⟨r, hr, e⟩ := List.mem_map.1 hm
    have := (rkN_mem a b 128 r).1 hr
    have e' : r = i := by have e2 : (r : Int) = (i : Int) := e; omega
    rw [← e']; exact this.2
  · intro hb
    exact List.mem_map.2 ⟨i, (rkN_mem a b 128 i).2 ⟨h, hb⟩, rfl⟩
/-- What is known of them. -/
structure RkL (a b : Nat) (R : List Int) : Prop where
  len : R.length = popM a b
  at_ : ∀ (j : Nat) (x : Int), R[j]? = some x → ∃ r : Nat, x = (r : Int) ∧ r < 128 ∧ bitM a b r = true
  lt : ∀ (j : Nat) (x y : Int), R[j]? = some x → R[j + 1]? = some y → x < y
theorem rk_is (a b : Nat) : RkL a b (rkTo a b 128) := by
  refine ⟨rkTo_len a b 128, fun j x h => ?_, fun j x y h h' => ?_⟩
  · obtain ⟨hj, rfl⟩ := List.getElem?_eq_some_iff.1 h
    exact rkTo_at hj
  · obtain ⟨hj, rfl⟩ := List.getElem?_eq_some_iff.1 h
    obtain ⟨hj', rfl⟩ := List.getElem?_eq_some_iff.1 h'
    exact rkTo_lt hj'
theorem es_one (w : World) (x : Int) (T : TypeId) : Es inC (w.alloc (.cells #[.int .i64 x] T)) (w.heap.size + 1) (some ⟨w.heap.size, 0, none⟩) 1 [x] := by
  refine ⟨rfl, fun _ => ⟨_, rfl, by simp, fun j v hv => ?_⟩⟩
  have e : ec inC [x] = [.int .i64 x] := rfl
  rw [e] at hv
  have hadd : (⟨w.heap.size, 0, none⟩ : Addr).add j = ⟨w.heap.size, j, none⟩ := by unfold Addr.add; split <;> simp_all
  rw [hadd, cell_of_row _ _ j _ _ _ (heap_alloc_new w _)]
  simpa using hv
theorem info_int : (Try.prog.info? 3).map (fun i => (i.zero, i.size, i.bytes)) = some (some (.int .i64 0), 1, 8) := by kernel_rfl
theorem info_partsM {P : Program} {T : TypeId} {z : Value} {k b : Nat} (h : (P.info? T).map (fun i => (i.zero, i.size, i.bytes)) = some (some z, k, b)) : ∃ i, P.info? T = some i ∧ i.zero = some z ∧ i.size = k ∧ i.bytes = b := by
  cases hq : P.info? T with
  | none => simp [hq] at h
  | some i => simp [hq] at h; exact ⟨i, rfl, h.1, h.2.1, h.2.2⟩
abbrev OwnI (w : World) (base : Nat) (v : Value) (n : Nat) (l : List Int) : Prop := OwnE 3 inC 1 w base v n l
set_option maxRecDepth 100000 in
theorem ranks_any (a b : Nat) (w : World) (ha : a < 18446744073709551616) (hb : b < 18446744073709551616) :
    Calls Try.prog 19 #[.agg #[.int .u64 (a : Int), .int .u64 (b : Int)]] w fun e w' => ∃ A c, e = .returned (.slice A (popM a b) c) ∧ OwnI w' w.heap.size (.slice A (popM a b) c) (popM a b) (rkTo a b 128) ∧ Below w.heap.size w w' := by
  have hbw : Below w.heap.size w (w.alloc (.cells #[.int .u64 (a : Int), .int .u64 (b : Int)] 24)) := (Below.refl _ _).alloc (Nat.le_refl _) _
  have m0 := MAt.mk_ w a b
  obtain ⟨i0, hi, hz0, hz1, hz2⟩ := info_partsM info_int
  go_enter Try.func19, Try.ntmps19
  go_wp2
  go_loopw [3, 5] (fun v i wr => ∃ (k q : Nat) (A : Option Addr) (c : Nat), k ≤ 128 ∧ i = .int .i64 k ∧ v = .slice A q c ∧ Hid (q = cnt (bitM a b) k) ∧ q ≤ k ∧ MAt wr w.heap.size a b ∧ OwnI wr (w.heap.size + 1) (.slice A q c) q (rkTo a b k) ∧ Below w.heap.size w wr) (fun _ i _ => 128 - (intOf i).toNat)
  case atStart => exact ⟨0, 0, none, 0, by omega, rfl, rfl, hide rfl, Nat.le_refl _, m0, OwnE.nil_ _ _, hbw⟩
  case round =>
    obtain ⟨k, q, A, c, hk, rfl, rfl, HN, hqk, q0, hown, hb1⟩ := hrel
    clear m0 hbw
    by_cases hlt : k < 128
    · have cs := fun W => has_any a b k W ha hb hlt
      have hyes := fun h => rkTo_yes (a := a) (b := b) (k := k) h
      have hno := fun h => rkTo_no (a := a) (b := b) (k := k) h
      have cyes := fun h => cnt_yes (p := bitM a b) (n := k) h
      have cno := fun h => cnt_no (p := bitM a b) (n := k) h
      have HH := hide (And.intro hyes (And.intro hno (And.intro cyes cno)))
      clear hyes hno cyes cno
      obtain ⟨t, ht⟩ : ∃ t, t = bitM a b k := ⟨_, rfl⟩
      rw [← ht] at cs
      have HT := hide ht
      clear ht
      obtain ⟨L, hL⟩ : ∃ L, L = rkTo a b k := ⟨_, rfl⟩
      rw [← hL] at hown
      have HL := hide hL
      clear hL
      have d0 := q0.c0
      have d1 := q0.c1
      go_wp2_with fail
      refine (cs _).mono ?_
      rintro e w1 ⟨rfl, hb2⟩
      have p0 := q0.later hb2
      have hown1 := OwnE.later hown hb2
      have hb3 := hb1.trans (hb2.mono hb1.size)
      have hz3 := hb3.size
      have hz4 := p0.lt
      clear hb1 hb2 cs q0 hown d0 d1
      cases t
      · go_wp2_with fail
        go_roundw
        case rel => exact ⟨k + 1, q, A, c, by omega, by go_num, rfl, hide (by rw [HH.out.2.2.2 HT.out.symm]; exact HN.out), by omega, p0, by rw [HH.out.2.1 HT.out.symm, ← HL.out]; exact hown1, hb3⟩
        case measure => simp [intOf]; omega
      · have HB := hide hb3
        clear hb3
        go_wp2_with (at_builtin; refine wp_append_e _ rfl (.tmp 11) (.tmp 13) 33 rfl 3 i0 _ 8 Try.underlying33 hi hz0 hz1 hz2 rfl inOk (w.heap.size + 1) q _ L rfl (hown1.alloc _) (w1.heap.size + 1) _ 1 1 [(k : Int)] rfl (es_one w1 (k : Int) _) (by unfold maxLen; omega) (by omega) w.heap.size w (HB.out.alloc HB.out.size _) (by omega) (by simp; omega) ?_; intro A2 c2 w2 r1 r2 r3 r4; refine Hid.out ?_)
        have r5 : (w1.alloc (.cells #[.int .i64 (k : Int)] 3)).grownBy w2 (Value.slice A q c).ownBlock := r4
        have r6 : OwnI w2 (w.heap.size + 1) (.slice A2 (q + 1) c2) (q + 1) (L ++ [(k : Int)]) := r1
        have r7 : MAt w2 w.heap.size a b := by
          have h7 := p0.alloc (.cells #[.int .i64 (k : Int)] 3)
          exact (r5.block w.heap.size h7.lt (fun e => by have := hown1.lt _ e.symm; omega)).trans h7
        refine Lib.hid ?_
        clear r1 r3 r4 r5 hown1 p0
        go_wp2_with fail
        go_roundw
        case rel => exact ⟨k + 1, q + 1, A2, c2, by omega, by go_num, rfl, hide (by rw [HH.out.2.2.1 HT.out.symm, ← HN.out]), by omega, r7, by rw [HH.out.1 HT.out.symm, ← HL.out]; exact r6, r2⟩
        case measure => simp [intOf]; omega
    · obtain rfl : k = 128 := by omega
      have HH := hide (And.intro hown hb1)
      clear hown hb1
      go_wp2
      go_ret
      have e : q = popM a b := HN.out
      subst e
      exact ⟨A, c, rfl, HH.out.1.mono (by omega), HH.out.2⟩
end Go.Proofs.Ytnaegaeicdknbaa
