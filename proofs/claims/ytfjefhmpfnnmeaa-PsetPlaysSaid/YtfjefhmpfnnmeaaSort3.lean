/-
  Processes sorted: the contracts of Sort, by the library's contract of slices.SortFunc.
-/
import Derived.Test.YtfjefhmpfnnmeaaSortM
import Derived.Test.YtfjefhmpfnnmeaaKey3
import Derived.Test.YtfjefhmpfnnmeaaSh2
import Derived.Shelf.SlSortCmp.QuietGrown
import Derived.Shelf.SlSortCmp.NoneTotal
namespace Go.Proofs.Ytfjefhmpfnnmeaa
open Go.RowKit Go.Sort
set_option linter.unusedVariables false
set_option linter.unusedSimpArgs false

theorem number_g (p : Pr) (w : World) :
    Calls Try.prog 32 #[.agg #[.int .u16 (p.i : Int), .int .u32 (p.k : Int)]] w fun e w' => e = .returned (.int .u64 (p.num : Int)) ∧ ∃ q os, w' = grow (w.drewN q) os := by
  have hi := p.hi
  have hk := p.hk
  go_enter Try.func32, Try.ntmps32
  go_wp2
  go_ret
  exact ⟨ret_int (or_32 p.i p.k hi hk), 0, _, alloc_eq_grow _ _⟩
/-- cmp.Compare. -/
def cmpI (x y : Nat) : Int := if x < y then -1 else if y < x then 1 else 0
theorem compare_any (x y : Nat) (w : World) (hx : x < 18446744073709551616) (hy : y < 18446744073709551616) :
    Calls Try.prog 31 #[.int .u64 (x : Int), .int .u64 (y : Int)] w fun e w' => e = .returned (.int .i64 (cmpI x y)) ∧ w = w' := by
  have t1 : ((x : Int) != (x : Int)) = false := by simp
  have t2 : ((y : Int) != (y : Int)) = false := by simp
  by_cases h1 : x < y
  · have hr : cmpI x y = -1 := by rw [cmpI, if_pos h1]
    rw [hr]
    clear hr
    go_enter Try.func31, Try.ntmps31
    go_wp2
    go_ret
    exact ⟨rfl, rfl⟩
  · by_cases h2 : y < x
    · have hr : cmpI x y = 1 := by rw [cmpI, if_neg h1, if_pos h2]
      rw [hr]
      clear hr
      go_enter Try.func31, Try.ntmps31
      go_wp2
      go_ret
      exact ⟨rfl, rfl⟩
    · have hr : cmpI x y = 0 := by rw [cmpI, if_neg h1, if_neg h2]
      rw [hr]
      clear hr
      go_enter Try.func31, Try.ntmps31
      go_wp2
      go_ret
      exact ⟨rfl, rfl⟩
theorem grown_same {P : Program} {f : FuncId} {args : Array Value} {w : World} {n : Nat} {os : Array Obj} {v : Value}
    (h : Calls P f args (grow (w.drewN n) os) fun e w' => e = .returned v ∧ grow (w.drewN n) os = w') : Calls P f args (grow (w.drewN n) os) fun e w'' => e = .returned v ∧ ∃ p : GrownBy, w'' = grow (w.drewN p.n) p.os :=
  h.mono fun _ _ ⟨he, hw⟩ => ⟨he, ⟨n, os⟩, hw.symm⟩
def cmpP (p q : Pr) : Int := cmpI p.num q.num
theorem Pr.num_lt (p : Pr) : p.num < 18446744073709551616 := by have := p.hi; have := p.hk; unfold Pr.num; omega
set_option maxRecDepth 100000 in
theorem closure_any (p q : Pr) (w : World) :
    Calls Try.prog 30 #[.agg #[.int .u16 (p.i : Int), .int .u32 (p.k : Int)], .agg #[.int .u16 (q.i : Int), .int .u32 (q.k : Int)]] w fun e w' => e = .returned (.int .i64 (cmpP p q)) ∧ ∃ m os, w' = grow (w.drewN m) os := by
  have c1 := fun W => number_g p W
  have c2 := fun W => number_g q W
  have c3 := fun W => compare_any p.num q.num W p.num_lt q.num_lt
  unfold cmpP
  generalize cmpI p.num q.num = r at *
  generalize p.num = np at *
  generalize q.num = nq' at *
  go_enter Try.func30, Try.ntmps30
  go_wp2
  have f0 : ((w.alloc (.cells #[.int .u16 (p.i : Int), .int .u32 (p.k : Int)] 32)).alloc (.cells #[.int .u16 (q.i : Int), .int .u32 (q.k : Int)] 32)).cell? ⟨w.heap.size, 0, none⟩ = some (.int .u16 (p.i : Int)) := by go_simp
  have f1 : ((w.alloc (.cells #[.int .u16 (p.i : Int), .int .u32 (p.k : Int)] 32)).alloc (.cells #[.int .u16 (q.i : Int), .int .u32 (q.k : Int)] 32)).cell? ⟨w.heap.size, 1, none⟩ = some (.int .u32 (p.k : Int)) := by go_simp
  have f2 : ((w.alloc (.cells #[.int .u16 (p.i : Int), .int .u32 (p.k : Int)] 32)).alloc (.cells #[.int .u16 (q.i : Int), .int .u32 (q.k : Int)] 32)).cell? ⟨w.heap.size + 1, 0, none⟩ = some (.int .u16 (q.i : Int)) := by go_simp
  have f3 : ((w.alloc (.cells #[.int .u16 (p.i : Int), .int .u32 (p.k : Int)] 32)).alloc (.cells #[.int .u16 (q.i : Int), .int .u32 (q.k : Int)] 32)).cell? ⟨w.heap.size + 1, 1, none⟩ = some (.int .u32 (q.k : Int)) := by go_simp
  have hg : ∃ os, ((w.alloc (.cells #[.int .u16 (p.i : Int), .int .u32 (p.k : Int)] 32)).alloc (.cells #[.int .u16 (q.i : Int), .int .u32 (q.k : Int)] 32)) = grow w os := ⟨_, by rw [alloc_eq_grow, alloc_eq_grow, grow_grow]⟩
  generalize ((w.alloc (.cells #[.int .u16 (p.i : Int), .int .u32 (p.k : Int)] 32)).alloc (.cells #[.int .u16 (q.i : Int), .int .u32 (q.k : Int)] 32)) = w1 at f0 f1 f2 f3 hg ⊢
  have g0 := cell_grown (World.block_lt_of_cell? _ _ f0) f0
  have g1 := cell_grown (World.block_lt_of_cell? _ _ f1) f1
  have g2 := cell_grown (World.block_lt_of_cell? _ _ f2) f2
  have g3 := cell_grown (World.block_lt_of_cell? _ _ f3) f3
  clear f0 f1 f2 f3
  have HG := hide hg
  clear hg
  have k1 := fun n os => Calls.grown_of (c1 (grow (w1.drewN n) os))
  have k2 := fun n os => Calls.grown_of (c2 (grow (w1.drewN n) os))
  have k3 := fun n os => grown_same (c3 (grow (w1.drewN n) os))
  clear c1 c2 c3
  refine wp_region_quiet_grown (by kernel_rfl) (by kernel_rfl) ?_
  repeat (go_big_quiet_step (first | with_reducible exact k1 _ _ | with_reducible exact k2 _ _ | with_reducible exact k3 _ _))
  refine wpQuiet_nil ?_
  rintro _ ⟨⟨n9, os9⟩, rfl⟩
  go_wp2
  go_ret
  obtain ⟨os1, e1⟩ := HG.out
  exact ⟨rfl, n9, os1 ++ os9, by rw [e1]; show grow (grow (w.drewN n9) os1) os9 = _; rw [grow_grow]⟩
/-! ### From a row of the call's own to the sort's words, and back -/
theorem flat_ec {α : Type} [Inhabited α] {enc : α → List Value} {k : Nat} (H : EncOk enc k) (l : List α) : (flatK enc k l.toArray).toList = ec enc l := by
  apply List.ext_getElem?
  intro t
  by_cases ht : t < l.length * k
  · have h0 : t < (flatK enc k l.toArray).size := by simpa using ht
    have hj : t / k < l.length := (Nat.div_lt_iff_lt_mul H.pos).2 ht
    have hi : t % k < k := Nat.mod_lt _ H.pos
    have hi' : t % k < (enc l[t / k]).length := by rw [H.len]; exact hi
    have e1 := get_flatK enc k l.toArray t (by simpa using ht)
    have e2 := ec_at H hj (List.getElem?_eq_getElem hi')
    rw [Nat.mul_comm, Nat.div_add_mod] at e2
    rw [e2, Array.getElem?_toList, Array.getElem?_eq_getElem h0, ← getElem!_pos (flatK enc k l.toArray) t h0, e1]
    congr 1
    have e3 : l.toArray[t / k]! = l[t / k] := by simp [hj]
    rw [e3, getElem!_pos (enc l[t / k]) (t % k) hi']
  · rw [List.getElem?_eq_none (by rw [Array.length_toList, size_flatK]; simpa using ht), List.getElem?_eq_none (by rw [ec_len H]; omega)]
section
variable {α : Type} [Inhabited α] {enc : α → List Value} {k : Nat} {T : TypeId} {w : World} {base n c g : Nat} {l : List α}
theorem holds_own (H : EncOk enc k) (h : OwnE T enc k w base (.slice (some ⟨g, 0, none⟩) n c) n l) : HoldsK enc k w g 0 l.toArray ∧ g < w.heap.size := by
  have hlen := h.len H
  rcases h.2 with ⟨h0, _⟩ | ⟨g', cap, cur, hv, _, hg, h1, h2, h3, h4⟩
  · cases h0
  · injection hv with e1 _ e3
    injection e1 with e1
    injection e1 with e1
    subst e1; subst e3
    refine ⟨fun j hj => ⟨?_, by simp [World.frozen?, hg]⟩, (Array.getElem?_eq_some_iff.1 hg).1⟩
    have hj' : j < n * k := by rw [← hlen]; simpa using hj
    have e4 : (cur.toList.take (n * k))[j]? = (ec enc l)[j]? := by rw [h4]
    rw [List.getElem?_take_of_lt hj', ← flat_ec H l, Array.getElem?_toList] at e4
    simp only [World.cell?, hg, Nat.zero_add]
    simp only [Option.isSome_none, Bool.false_eq_true, if_false]
    rw [e4, Array.getElem?_toList, Array.getElem?_eq_getElem hj, ← getElem!_pos (flatK enc k l.toArray) j hj]
    rfl
theorem own_sorted (H : EncOk enc k) (h : OwnE T enc k w base (.slice (some ⟨g, 0, none⟩) n c) n l) (ts : List α) (ht : ts.length = n) (m : Nat) (os : Array Obj) :
    OwnE T enc k (sortWorldK enc k w g 0 m ts.toArray os) base (.slice (some ⟨g, 0, none⟩) n c) n ts ∧ w.grownBy (sortWorldK enc k w g 0 m ts.toArray os) (some g) := by
  rcases h.2 with ⟨h0, _⟩ | ⟨g', cap, cur, hv, hbg, hg, h1, h2, h3, h4⟩
  · cases h0
  · injection hv with e1 _ e3
    injection e1 with e1
    injection e1 with e1
    subst e1; subst e3
    have hlt : g < w.heap.size := (Array.getElem?_eq_some_iff.1 hg).1
    refine ⟨⟨by rw [ec_len H, ht], .inr ⟨g, c, putCells id 0 (flatK enc k ts.toArray) cur, rfl, hbg, ?_, h1, h2, by simp [putCells, h3], ?_⟩⟩, rfl, rfl, rfl, by simp [sortWorldK, putRowK, putRow, mapBlock, Sort.ahead], fun j hj hne => ?_⟩
    · unfold sortWorldK putRowK
      rw [heap_grow_old _ _ (by simpa [putRow, mapBlock, Sort.ahead] using hlt)]
      simp [putRow, mapBlock, Sort.ahead, Array.getElem?_modify, hg, onCells]
    · have hmul : n * k ≤ c * k := Nat.mul_le_mul_right _ h1
      rw [← flat_ec H ts]
      apply List.ext_getElem?
      intro j
      by_cases hj : j < n * k
      · have hj2 : j < (flatK enc k ts.toArray).size := by simpa [ht] using hj
        rw [List.getElem?_take_of_lt hj, Array.getElem?_toList, Array.getElem?_toList, Array.getElem?_eq_getElem hj2, ← getElem!_pos (flatK enc k ts.toArray) j hj2]
        have hc : j < cur.size := by omega
        simp [putCells, hj2, hc]
        exact fun h' => absurd h' (by rw [ht]; omega)
      · rw [List.getElem?_take_eq_none (by omega), List.getElem?_eq_none (by rw [Array.length_toList, size_flatK]; simpa [ht] using hj)]
    · unfold sortWorldK putRowK
      rw [heap_grow_old _ _ (by simpa [putRow, mapBlock, Sort.ahead] using hj)]
      have : g ≠ j := fun e => hne (by rw [e])
      simp [putRow, mapBlock, Sort.ahead, Array.getElem?_modify, this]
end
theorem ltOf_cmpP (p q : Pr) : ltOf cmpP p q = decide (p.num < q.num) := by
  unfold ltOf cmpP cmpI
  by_cases h1 : p.num < q.num
  · simp [h1]
  · by_cases h2 : q.num < p.num <;> simp [h1, h2]
theorem swo_cmpP : SWO (ltOf cmpP) where
  irrefl p := by rw [ltOf_cmpP]; simp
  trans p q r h1 h2 := by rw [ltOf_cmpP] at *; simp at *; omega
  ntrans p q r h1 h2 := by rw [ltOf_cmpP] at *; simp at *; omega
theorem apart_cmpP (p q : Pr) (h1 : ltOf cmpP p q = false) (h2 : ltOf cmpP q p = false) : p = q := by
  rw [ltOf_cmpP] at *
  simp at h1 h2
  exact Pr.num_inj (by omega)
/-- slices.SortFunc over processes of the call's own, each once. -/
def SortsP (w : World) (base n c : Nat) (A : Option Addr) (m : List Pr) (e : Ending) (w' : World) : Prop :=
  e = .returned (.tuple #[]) ∧ OwnP w' base (.slice A n c) n m ∧ ∀ B w0, Below B w0 w → B ≤ base → B ≤ w.heap.size → Below B w0 w'
theorem sortfunc_any (A : Option Addr) (n c base : Nat) (l l0 : List Pr) (w : World) (h : OwnP w base (.slice A n c) n l) (hl : l = dedup l0) (hn : n ≤ 1000000) :
    Calls Try.prog 29 #[.slice A n c, .func (.func 30) #[] #[]] w (SortsP w base n c A (sortP l0)) := by
  have hlen := OwnE.len prOk h
  have hsl : (sortP l0).length = n := by
    rw [← merge_is l0, List.length_mergeSort, ← hl, hlen]
  cases A with
  | none =>
    have h0 : n = 0 := by
      rcases h.2 with ⟨_, h0⟩ | ⟨g, cap, cur, hv, _⟩
      · exact h0
      · injection hv with e; cases e
    subst h0
    have hs0 : sortP l0 = [] := List.eq_nil_of_length_eq_zero hsl
    have hl0 : l = [] := List.eq_nil_of_length_eq_zero hlen
    rw [hs0]
    rw [hl0] at h
    have hcon := AnyF.slices_SortFunc_none Try.sortPid none c (.func (.func 30) #[] #[]) w
    change Calls Try.prog 29 _ _ _ at hcon
    exact hcon.mono fun e w' ⟨he, hw⟩ => ⟨he, by rw [hw]; exact h, fun B w0 hb _ _ => by rw [hw]; exact hb⟩
  | some ad =>
    obtain ⟨g, rfl⟩ : ∃ g, ad = ⟨g, 0, none⟩ := by
      rcases h.2 with ⟨h0, _⟩ | ⟨g, cap, cur, hv, _⟩
      · cases h0
      · injection hv with e; exact ⟨g, Option.some.inj e⟩
    obtain ⟨hH, hg⟩ := holds_own prOk h
    have eg : ∀ args w, (callFunc 30 args).run Try.prog w = .ok (.enter 30 args) w := enters_of Try.func30 (by kernel_rfl) rfl
    have hcmp : CmpLays Try.prog 30 #[] prC 2 cmpP g 0 l.toArray.size w := fun _ _ _ _ x y => closure_any x y _
    have hcon := AnyQ.slices_SortFunc_total Try.sortPid 2 Try.isAgg32 Try.sizeOf32 prC prOk.len prOk.one cmpP swo_cmpP 30 #[] g 0 c l.toArray w eg hcmp hH hg (by simp [hlen]; omega) apart_cmpP
    change Calls Try.prog 29 _ _ _ at hcon
    have e1 : l.toArray.size = n := by simp [hlen]
    have e2 : (l.toArray.toList.mergeSort fun x y => !ltOf cmpP y x) = sortP l0 := by
      have e3 : (fun x y : Pr => !ltOf cmpP y x) = fun x y => !decide (y.num < x.num) := by funext x y; rw [ltOf_cmpP]
      rw [e3, List.toList_toArray, hl, merge_is]
    rw [e1, e2] at hcon
    exact hcon.mono fun e w' ⟨he, m, os, hw⟩ => by
      obtain ⟨h1, h2⟩ := own_sorted prOk h (sortP l0) hsl m os
      subst hw
      refine ⟨he, h1, fun B w0 hb hB hBw => hb.grown h2 hBw fun j hj => ?_⟩
      obtain rfl := Option.some.inj hj
      have := (OwnE.lt h g rfl).1
      omega
end Go.Proofs.Ytfjefhmpfnnmeaa
