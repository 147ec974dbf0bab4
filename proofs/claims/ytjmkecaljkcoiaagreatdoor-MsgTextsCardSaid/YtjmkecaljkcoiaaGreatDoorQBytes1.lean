import Derived.Test.YtjmkecaljkcoiaaGreatDoorRows
import Derived.Outline
import Derived.Deep.QuietTactic
import Derived.BigQuiet
import Derived.Test.YtjmkecaljkcoiaaGreatDoorQOpenF
namespace Go.Proofs.YtjmkecaljkcoiaaGreatDoor
open Go.RowKit
set_option linter.unusedVariables false
theorem take_snoc {l : List UInt8} {k : Nat} (h : k < l.length) : l.take (k + 1) = l.take k ++ [l[k]] := by
  rw [List.take_succ_eq_append_getElem h]
theorem byte_ne {a b : UInt8} (h : a ≠ b) : ((a.toNat : Int) != (b.toNat : Int)) = true := by
  simp only [bne_iff_ne, ne_eq]
  intro e
  exact h (UInt8.toNat_inj.1 (by omega))
theorem byte_eq {a b : UInt8} (h : a = b) : ((a.toNat : Int) != (b.toNat : Int)) = false := by simp [h]
theorem same_any (A A' : Option Addr) (n m c c' : Nat) (l l' : List UInt8) (B B' : Nat) (w : World) (hA : Bs w B A n l) (hA' : Bs w B' A' m l') (hn : n ≤ maxLen) (hm : m ≤ maxLen) :
    Calls Tryz.prog 48 #[.slice A n c, .slice A' m c'] w fun e w' => e = .returned (.bool (sameB l l')) ∧ Drawn w w' := by
  unfold maxLen at hn hm
  by_cases hnm : n = m
  · subst hnm
    have hne : ((n : Int) != (n : Int)) = false := by simp
    go_enter Tryz.func48, Tryz.ntmps48
    go_wp2
    go_loopw [5] (fun i wr => ∃ k : Nat, k ≤ n ∧ i = .int .i64 k ∧ Drawn w wr ∧ l.take k = l'.take k) (fun i _ => n - (intOf i).toNat)
    case atStart => exact ⟨0, Nat.zero_le _, rfl, Drawn.refl _, rfl⟩
    case round =>
      obtain ⟨k, hk, rfl, ⟨nq, rfl⟩, ht⟩ := hrel
      have HT := hide ht
      clear ht
      by_cases hlt : k < n
      · obtain ⟨ad, hl, rfl, _, hc⟩ := hA.at_ hlt
        obtain ⟨ad', hl', rfl, _, hc'⟩ := hA'.at_ hlt
        by_cases hb : l[k] = l'[k]
        · have hb' := byte_eq hb
          have HB := hide hb
          clear hb
          unfold byteV at hc hc'
          go_wp2_with fail
          go_quiet (fail)
          go_wp2
          go_roundw
          case rel => exact ⟨k + 1, by omega, by go_num, (by first | exact drawn_one _ _ | exact drawn_two _ _ _), by rw [take_snoc hl, take_snoc hl', HT.out, HB.out]⟩
          case measure => simp [intOf]; omega
        · have hb' := byte_ne hb
          have HB := hide hb
          clear hb
          unfold byteV at hc hc'
          go_wp2_with fail
          go_quiet (fail)
          go_wp2
          go_ret
          refine ⟨ret_bool ?_, (by first | exact drawn_one _ _ | exact drawn_two _ _ _)⟩
          have e : l ≠ l' := fun e => HB.out (by subst e; rfl)
          simp [sameB, e]
      · go_wp2
        go_ret
        refine ⟨ret_bool ?_, (by first | exact drawn_one _ _ | exact drawn_two _ _ _)⟩
        have h1 := hA.len
        have h2 := hA'.len
        have e := HT.out
        rw [List.take_of_length_le (by omega), List.take_of_length_le (by omega)] at e
        simp [sameB, e]
  · have hne : ((n : Int) != (m : Int)) = true := by simp only [bne_iff_ne, ne_eq]; omega
    go_enter Tryz.func48, Tryz.ntmps48
    go_wp2
    go_ret
    exact ⟨ret_bool (by rw [sameB_len]; rw [hA.len, hA'.len]; exact hnm), Drawn.refl _⟩
theorem same_eq (A A' : Option Addr) (n m c c' : Nat) (l l' : List UInt8) (B B' : Nat) (w : World) (hA : Bs w B A n l) (hA' : Bs w B' A' m l') (hn : n ≤ maxLen) (he : l = l') :
    Calls Tryz.prog 48 #[.slice A n c, .slice A' m c'] w fun e w' => e = .returned (.bool true) ∧ Drawn w w' :=
  (same_any A A' n m c c' l l' B B' w hA hA' hn (by rw [← hA'.len, ← he, hA.len]; exact hn)).mono fun e w' ⟨h1, h2⟩ => ⟨by rw [h1, sameB_eq he], h2⟩
theorem info_u8 : (Tryz.prog.info? 5).map (fun i => (i.zero, i.size, i.bytes)) = some (some (.int .u8 0), 1, 1) := by kernel_rfl
def zeroBytes (k : Nat) : List Value := List.replicate k (.int .u8 0)
theorem zeroBytes_len (k : Nat) : (zeroBytes k).length = k := by simp [zeroBytes]
theorem mk_bytes (n c : Nat) (C : Int) (hC : C = (c : Int)) (hnc : n ≤ c) (hc : c ≤ 281474976710656) (W : World) :
    (Instr.makeSlice 39 (.int .i64 n) (.int .i64 C)).run Tryz.prog W = .ok (.slice (some ⟨W.heap.size, 0, none⟩) n c) (W.alloc (.cells (zeroBytes c).toArray 5)) := by
  subst hC
  obtain ⟨i0, hi, hz0, hz1, hz2⟩ := info_parts info_u8
  have hr := run_make (P := Tryz.prog) W 39 5 i0 _ Tryz.underlying39 hi hz0 .i64 .i64 n c (by omega) (by omega) (by rw [hz2]; omega) (by omega)
  simp only [Int.toNat_natCast, hz1, Nat.mul_one] at hr
  rw [hr]
  have e : madeCells (Value.int IntKind.u8 0).cells c = (zeroBytes c).toArray := by
    apply Array.ext'
    have := toList_madeCells_one (.int .u8 0) c
    simpa [zeroBytes, Value.cells] using this
  rw [e]
theorem own_of_cells {w : World} {base g n c : Nat} {e : TypeId} {cs : List Value} {xs : List Value} (hg : w.heap[g]? = some (.cells cs.toArray e (0, 0))) (hb : base ≤ g) (hn : n ≤ c) (hc : c ≤ maxLen) (hl : cs.length = c) (hx : xs.length = n) (ht : cs.take n = xs) :
    w.ownsRow base e 1 (.slice (some ⟨g, 0, none⟩) n c) n xs :=
  ⟨by simpa using hx, .inr ⟨g, c, cs.toArray, rfl, hb, hg, hn, hc, by simpa using hl, by simpa using ht⟩⟩
theorem lt_of_heap {w : World} {g : Nat} {o : Obj} (h : w.heap[g]? = some o) : g < w.heap.size := (Array.getElem?_eq_some_iff.1 h).1
def OwnB (w : World) (base : Nat) (v : Value) (n : Nat) (l : List UInt8) : Prop := w.ownsRow base 5 1 v n (bvs l)
theorem OwnB.nil_ (w : World) (base : Nat) : OwnB w base (.slice none 0 0) 0 [] := World.ownsRow_nil _ _ _ _
theorem OwnB.len {w : World} {base : Nat} {v : Value} {n : Nat} {l : List UInt8} (h : OwnB w base v n l) : l.length = n := by have := h.1; simpa [bvs] using this
theorem OwnB.bs {w : World} {base n c : Nat} {A : Option Addr} {l : List UInt8} (h : OwnB w base (.slice A n c) n l) : Bs w w.heap.size A n l := Bs.of_own h
theorem OwnB.alloc {w : World} {base : Nat} {v : Value} {n : Nat} {l : List UInt8} (h : OwnB w base v n l) (o : Obj) : OwnB (w.alloc o) base v n l := World.ownsRow.alloc h o
theorem OwnB.drewN {w : World} {base : Nat} {v : Value} {n : Nat} {l : List UInt8} (h : OwnB w base v n l) (k : Nat) : OwnB (w.drewN k) base v n l := h
theorem OwnB.drew {w : World} {base : Nat} {v : Value} {n : Nat} {l : List UInt8} (h : OwnB w base v n l) : OwnB w.drew base v n l := h
theorem OwnB.below {w w' : World} {base B : Nat} {v : Value} {n : Nat} {l : List UInt8} (h : OwnB w base v n l) (hb : Below B w w') (hv : ∀ k, v.ownBlock = some k → k < B) : OwnB w' base v n l := by
  obtain ⟨h1, h2⟩ := h
  refine ⟨h1, ?_⟩
  rcases h2 with h2 | ⟨g, cap, cur, rfl, hg, hh, r⟩
  · exact .inl h2
  · exact .inr ⟨g, cap, cur, rfl, hg, (hb.block g (hv g rfl)).trans hh, r⟩
theorem OwnB.lt {w : World} {base : Nat} {v : Value} {n : Nat} {l : List UInt8} (h : OwnB w base v n l) : ∀ k, v.ownBlock = some k → base ≤ k ∧ k < w.heap.size := World.ownsRow.lt h
theorem OwnB.mono {w : World} {base base' : Nat} {v : Value} {n : Nat} {l : List UInt8} (h : OwnB w base v n l) (hb : base' ≤ base) : OwnB w base' v n l := by
  obtain ⟨h1, h2⟩ := h
  refine ⟨h1, ?_⟩
  rcases h2 with h2 | ⟨g, cap, cur, rfl, hg, r⟩
  · exact .inl h2
  · exact .inr ⟨g, cap, cur, rfl, by omega, r⟩
theorem OwnB.later {w w' : World} {base : Nat} {v : Value} {n : Nat} {l : List UInt8} (h : OwnB w base v n l) (hb : Below w.heap.size w w') : OwnB w' base v n l := h.below hb fun k hk => (h.lt k hk).2
section
variable {ops : Array Oper} {rest : List Oper} {o : Oper} {a : Act} {Q : Exit → Act → World → Prop}
theorem wp_byte_fits (w : World) (hg : o.guard = none) (s x : Operand)
    (hop : o.op = Op.call { callee := Callee.builtin Builtin.append, args := #[s, x], argTypes := #[39, 39] })
    (base g k cap : Nat) (l : List UInt8) (hs : a.eval s = .slice (some ⟨g, 0, none⟩) k cap) (hown : OwnB w base (.slice (some ⟨g, 0, none⟩) k cap) k l)
    (h : Nat) (b : UInt8) (hx : a.eval x = .slice (some ⟨h, 0, none⟩) 1 1) (hc : w.cell? ⟨h, 0, none⟩ = some (byteV b)) (b1 : k + 1 ≤ cap) (B : Nat) (w0 : World) (hb : Below B w0 w) (hB : B ≤ w.heap.size) (hBg : B ≤ g)
    (hK : ∀ w', OwnB w' base (.slice (some ⟨g, 0, none⟩) (k + 1) cap) (k + 1) (l ++ [b]) → Below B w0 w' → w.heap.size ≤ w'.heap.size → wpList Tryz.prog ops Q rest (a.put o.dst (.slice (some ⟨g, 0, none⟩) (k + 1) cap)) w') :
    wpList Tryz.prog ops Q (o :: rest) a w := by
  obtain ⟨i0, hi, hz0, hz1, hz2⟩ := info_parts info_u8
  refine wpList_append_fits w hg s x 39 hop base 5 i0 1 Tryz.underlying39 hi hz1 g k cap _ hs hown ⟨h, 0, none⟩ 1 1 [byteV b] hx rfl ?_ (by intro u hu; simp at hu; subst hu; rfl) b1 ?_
  · intro j u hj
    match j, hj with
    | 0, hj => simp at hj; subst hj; simpa [Addr.add] using hc
  · intro w' h1 h2
    exact hK w' (by unfold OwnB; rw [bvs_snoc]; exact h1) (hb.grown h2 hB (by intro k hk; injection hk with hk; omega)) h2.size
end
theorem OwnB.shape {w : World} {base : Nat} {v : Value} {n : Nat} {l : List UInt8} (h : OwnB w base v n l) : ∃ A c, v = .slice A n c := by
  rcases h.2 with ⟨rfl, rfl⟩ | ⟨g, cap, cur, rfl, _⟩
  · exact ⟨_, _, rfl⟩
  · exact ⟨_, _, rfl⟩
theorem run_append_of_nil {P : Program} (w : World) (base : Nat) (t ty e : TypeId) (i : TypeInfo) (size : Nat) (ht : P.underlying t = some (.slice e)) (hi : P.info? e = some i)
    (v : Value) (n : Nat) (xs : List Value) (hown : w.ownsRow base e size v n xs) (c : Nat) : (Builtin.append_ #[t, t] ty #[v, .slice none 0 c]).run P w = .ok v w := by
  rcases hown.2 with ⟨rfl, rfl⟩ | ⟨g, cap, cur, rfl, _, _, hnc, _⟩
  · simp [Builtin.append_, run_underlying ht, sizeOf, typeInfo, hi, Builtin.lenOf, Builtin.firstCells]
  · simp [Builtin.append_, run_underlying ht, sizeOf, typeInfo, hi, Builtin.lenOf, Builtin.firstCells, hnc, storeCells]
theorem run_bytes_own (w : World) (ty : TypeId) (base k : Nat) (v : Value) (l : List UInt8) (hown : OwnB w base v k l)
    (B : Nat) (A : Option Addr) (m c : Nat) (l2 : List UInt8) (hr : Bs w B A m l2) (b1 : k + m ≤ 140737488355328) (B0 : Nat) (w0 : World) (hb : Below B0 w0 w) (hB : B0 ≤ base) (hBw : base ≤ w.heap.size) :
    ∃ v' w', (Builtin.append_ #[39, 39] ty #[v, .slice A m c]).run Tryz.prog w = .ok v' w' ∧ OwnB w' base v' (k + m) (l ++ l2) ∧ Below B0 w0 w' ∧ w.heap.size ≤ w'.heap.size := by
  obtain ⟨i0, hi, hz0, hz1, hz2⟩ := info_parts info_u8
  by_cases hm : m = 0
  · subst hm
    obtain rfl : l2 = [] := List.eq_nil_of_length_eq_zero hr.len
    rcases A with _ | ad
    · exact ⟨v, w, run_append_of_nil w base _ _ 5 i0 1 Tryz.underlying39 hi v k _ hown c, by simpa using hown, hb, Nat.le_refl _⟩
    · obtain ⟨v', w', h1, h2, h3, _⟩ := run_append_own (P := Tryz.prog) w base 39 ty 5 i0 _ 1 1 Tryz.underlying39 hi hz0 hz1 hz2 rfl (by decide) v k _ hown ad 0 c [] rfl (by simp) (by simp) (by unfold maxLen; omega) (by omega) (by omega)
      exact ⟨v', w', h1, by unfold OwnB; simpa [bvs] using h2, hb.grown h3 (by omega) (by intro g hg; have := hown.lt g hg; omega), h3.size⟩
  · obtain ⟨ad, rfl, _, hc⟩ := hr.2 (by omega)
    obtain ⟨v', w', h1, h2, h3, _⟩ := run_append_own (P := Tryz.prog) w base 39 ty 5 i0 _ 1 1 Tryz.underlying39 hi hz0 hz1 hz2 rfl (by decide) v k _ hown ad m c (bvs l2) (by rw [bvs_len, hr.len]; omega) (by
      intro j u hu
      rw [bvs, List.getElem?_map, Option.map_eq_some_iff] at hu
      obtain ⟨x, hx, rfl⟩ := hu
      exact hc j x hx) (bvs_one l2) (by unfold maxLen; omega) (by omega) (by omega)
    exact ⟨v', w', h1, by unfold OwnB; rw [bvs_append]; exact h2, hb.grown h3 (by omega) (by intro g hg; have := hown.lt g hg; omega), h3.size⟩
theorem wp_bytes_own {ops : Array Oper} {rest : List Oper} {o : Oper} {a : Act} {Q : Exit → Act → World → Prop} (w : World) (hg : o.guard = none) (s x : Operand)
    (hop : o.op = Op.call { callee := Callee.builtin Builtin.append, args := #[s, x], argTypes := #[39, 39] })
    (base k : Nat) (v : Value) (l : List UInt8) (hs : a.eval s = v) (hown : OwnB w base v k l)
    (B : Nat) (A : Option Addr) (m c : Nat) (l2 : List UInt8) (hx : a.eval x = .slice A m c) (hr : Bs w B A m l2) (b1 : k + m ≤ 140737488355328) (B0 : Nat) (w0 : World) (hb : Below B0 w0 w) (hB : B0 ≤ base) (hBw : base ≤ w.heap.size)
    (hK : ∀ A' c' w', OwnB w' base (.slice A' (k + m) c') (k + m) (l ++ l2) → Below B0 w0 w' → w.heap.size ≤ w'.heap.size → wpList Tryz.prog ops Q rest (a.put o.dst (.slice A' (k + m) c')) w') :
    wpList Tryz.prog ops Q (o :: rest) a w := by
  refine wpList_plain hg fun K hK' => ?_
  obtain ⟨v', w', hrun, r1, r2, r3⟩ := run_bytes_own w o.type base k v l hown B A m c l2 hr b1 B0 w0 hb hB hBw
  obtain ⟨A', c', rfl⟩ := r1.shape
  unfold Oper.wp
  simp [execOp, hop, resolve, invoke, builtin, hs, hx, hrun, Result.andThen]
  exact hK' _ _ (hK _ _ w' r1 r2 r3)
theorem step_bytes_own {ops : Array Oper} {o : Oper} {a : Act} {K : Act → World → Prop} {Q : Exit → Act → World → Prop} {E : Prop} (w : World) (hg : o.guard = none) (s x : Operand)
    (hop : o.op = Op.call { callee := Callee.builtin Builtin.append, args := #[s, x], argTypes := #[39, 39] })
    (base k : Nat) (v : Value) (l : List UInt8) (hs : a.eval s = v) (hown : OwnB w base v k l)
    (B : Nat) (A : Option Addr) (m c : Nat) (l2 : List UInt8) (hx : a.eval x = .slice A m c) (hr : Bs w B A m l2) (b1 : k + m ≤ 140737488355328) (B0 : Nat) (w0 : World) (hb : Below B0 w0 w) (hB : B0 ≤ base) (hBw : base ≤ w.heap.size)
    (hK : ∀ A' c' w', OwnB w' base (.slice A' (k + m) c') (k + m) (l ++ l2) → Below B0 w0 w' → w.heap.size ≤ w'.heap.size → K (a.put o.dst (.slice A' (k + m) c')) w') :
    if Region.wanted o (yielded ops a.tmps) = true then Oper.wp Tryz.prog o a w K Q else E := by
  have hw : Region.wanted o (yielded ops a.tmps) = true := by simp [Region.wanted, hg]
  rw [if_pos hw]
  obtain ⟨v', w', hrun, r1, r2, r3⟩ := run_bytes_own w o.type base k v l hown B A m c l2 hr b1 B0 w0 hb hB hBw
  obtain ⟨A', c', rfl⟩ := r1.shape
  unfold Oper.wp
  simp [execOp, hop, resolve, invoke, builtin, hs, hx, hrun, Result.andThen]
  exact hK _ _ w' r1 r2 r3
theorem own_lit (w : World) (base n : Nat) (l : List UInt8) (cs : Array Value) (hc : cs = (bvs l).toArray) (hn : l.length = n) (hm : n ≤ maxLen) (hb : base ≤ w.heap.size) :
    OwnB (w.alloc (.cells cs 5)) base (.slice (some ⟨w.heap.size, 0, none⟩) n n) n l := by
  subst hc
  exact own_of_cells (heap_alloc_new w _) hb (Nat.le_refl _) hm (by rw [bvs_len]; exact hn) (by rw [bvs_len]; exact hn) (List.take_of_length_le (by rw [bvs_len]; omega))
theorem copied_any (A : Option Addr) (n c r : Nat) (l : List UInt8) (B : Nat) (w : World) (hA : Bs w B A n l) (hB : B ≤ w.heap.size) (hn : n ≤ 140737488355328) (hr : r ≤ 1000) :
    Calls Tryz.prog 224 #[.slice A n c, .int .i64 r] w fun e w' => e = .returned (.slice (some ⟨w.heap.size, 0, none⟩) n (n + r)) ∧
      OwnB w' w.heap.size (.slice (some ⟨w.heap.size, 0, none⟩) n (n + r)) n l ∧ Below w.heap.size w w' ∧ w.heap.size < w'.heap.size := by
  have hmk := fun W => mk_bytes n (n + r) ((n : Int) + (r : Int)) (by omega) (by omega) (by omega) W
  obtain ⟨cs, hcs⟩ : ∃ cs, cs = bvs l := ⟨_, rfl⟩
  have hlen : cs.length = n := by rw [hcs, bvs_len]; exact hA.len
  have hone : ∀ v ∈ cs, v.oneCell' = true := by rw [hcs]; exact bvs_one l
  have HCS := hide hcs
  clear hcs
  have HL := hide hlen
  clear hlen
  go_enter Tryz.func224, Tryz.ntmps224
  go_wp2_with (with_reducible refine wpList_copy_splice rfl _ _ _ _ rfl 5 Tryz.underlying39 (by kernel_rfl) _ _ _ _ _ _ rfl rfl w.heap.size 0 (zeroBytes (n + r)) 5 (heap_alloc_new w _) cs ?h1 ?h2 ?h3 hone w.heap.size w ?h4 (Nat.le_refl _) ?_)
  case h1 => rw [HL.out]; simp
  case h2 => exact (hA.alloc hB _).src HCS.out
  case h3 => rw [HL.out, zeroBytes_len]; omega
  case h4 => exact (Below.refl _ _).alloc (Nat.le_refl _) _
  intro w2 HG hb
  go_wp2
  go_ret
  have hg := HG.out
  have e : (splice (zeroBytes (n + r)) 0 cs).take n = bvs l := by
    rw [← HCS.out, ← HL.out]; simp [splice]
  exact ⟨rfl, own_of_cells hg (Nat.le_refl _) (by omega) (by unfold maxLen; omega) (by rw [length_splice _ _ _ (by rw [HL.out, zeroBytes_len]; omega), zeroBytes_len]) (by rw [bvs_len]; exact hA.len) e, hb, lt_of_heap hg⟩
theorem OwnB.block {w : World} {base n c : Nat} {A : Option Addr} {l : List UInt8} (h : OwnB w base (.slice A n c) n l) (hn : 0 < n) : ∃ g, A = some ⟨g, 0, none⟩ ∧ base ≤ g ∧ g < w.heap.size := by
  rcases h.2 with ⟨e, h0⟩ | ⟨g, cap, cur, hv, hb, hg, _⟩
  · omega
  · injection hv with e1 _ _
    exact ⟨g, e1, hb, lt_of_heap hg⟩
theorem OwnB.cap {w : World} {base n c : Nat} {A : Option Addr} {l : List UInt8} (h : OwnB w base (.slice A n c) n l) : n ≤ c := by
  rcases h.2 with ⟨e, h0⟩ | ⟨g, cap, cur, hv, _, _, hnc, _⟩
  · injection e; omega
  · injection hv with _ _ e; subst e; exact hnc
theorem OwnB.frozen {w : World} {base n c g : Nat} {l : List UInt8} (h : OwnB w base (.slice (some ⟨g, 0, none⟩) n c) n l) (k : Nat) : w.frozen? ⟨g, k, none⟩ = false := World.ownsRow.frozenAt h k
theorem OwnB.cell {w : World} {base n c g : Nat} {l : List UInt8} (h : OwnB w base (.slice (some ⟨g, 0, none⟩) n c) n l) {k : Nat} (hk : k < n) (hl : k < l.length) : w.cell? ⟨g, k, none⟩ = some (byteV l[k]) := by
  rw [World.ownsRow.cellAt h k (by omega), bvs, List.getElem?_map, List.getElem?_eq_getElem hl]; rfl
theorem OwnB.set_ {w : World} {base n c g : Nat} {l : List UInt8} (h : OwnB w base (.slice (some ⟨g, 0, none⟩) n c) n l) (k : Nat) (x : UInt8) : OwnB (w.setCell ⟨g, k, none⟩ (byteV x)) base (.slice (some ⟨g, 0, none⟩) n c) n (l.set k x) := by
  have := (World.ownsRow.stored h k (byteV x)).1
  unfold OwnB
  have e : bvs (l.set k x) = (bvs l).set k (byteV x) := by simp [bvs, List.map_set]
  rw [e]; exact this
end Go.Proofs.YtjmkecaljkcoiaaGreatDoor
