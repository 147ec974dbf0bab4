import Derived.Test.YtjmkecaljkcoiaaGreatDoorRows
import Derived.Lib.LaidTab
import Derived.OpenShut
import Derived.LaidByTextLater
import Derived.Test.YtjmkecaljkcoiaaGreatDoorQMsg1
import Derived.Test.YtjmkecaljkcoiaaGreatDoorQBytes1
import Derived.Test.YtjmkecaljkcoiaaGreatDoorQPut1
import Derived.Test.YtjmkecaljkcoiaaGreatDoorQCmd6
namespace Go.Proofs.YtjmkecaljkcoiaaGreatDoor
set_option linter.unusedSimpArgs false
open Go.RowKit Go.Lib Go.ChangeShapes Go.WideShapes
theorem gKinds : Tryz.prog.globalNamed "choragus/msg.kinds" = some 0 := by kernel_rfl
theorem tKinds : (Tryz.prog.globals[0]?).map (·.type) = some 111 := by kernel_rfl
theorem cellsKind : Tryz.prog.cellsOf 110 = 2 := by kernel_rfl
theorem cellsKinds : Tryz.prog.cellsOf 111 = 30 := by kernel_rfl
theorem cellsStr10 : Tryz.prog.cellsOf 9 = 1 := by kernel_rfl
theorem cellsFields : Tryz.prog.cellsOf 108 = 1 := by kernel_rfl
set_option maxRecDepth 100000 in
theorem kind_cells {H : Type} {enc : TypeId × Value → H} {w : World} {base : Nat} {sp : Nat → Bool} {held : Bool} {fuel : Nat} {cs : List Value} {x : DataW H × List MemPlace} (h : DataW.trod enc Tryz.prog w base sp held fuel 110 cs = some x) :
    ∃ (s : ByteArray) (n : Int), cs = [.string s, .int .u16 n] ∧ x.1 = .agg [.lit (.string s.data.toList), .lit (.int .u16 n)] := by
  obtain ⟨y0, y1, n, hx, hl, h0, h1⟩ := trod_struct2 Tryz.underlying110 h
  rw [cellsKind] at hl
  match cs, hl with
  | [a, b], _ =>
    simp only [cellsStr10, cellsFields, List.drop_zero, List.drop_succ_cons, List.take_succ_cons, List.take_zero] at h0 h1
    obtain ⟨s, e0, q0, _⟩ := DataW.trod_string Tryz.underlying9 h0
    obtain ⟨m, e1, q1, _⟩ := DataW.trod_int Tryz.underlying108 h1
    simp only [List.cons.injEq, and_true] at e0 e1
    subst e0 e1 q0 q1
    exact ⟨s, m, rfl, by rw [hx]⟩
def kindD {H : Type} (i : Nat) : DataW H := match (Rows.laid_choragus_msg_kinds : DataW H) with | .agg l => l.getD i .nil | _ => .nil
theorem kindD_has {H : Type} {i : Nat} (hi : i < 15) : ∃ t, (kindD i : DataW H) = .agg [.lit (.string t), .lit (.int .u16 ((tabM i : Nat) : Int))] := by
  have : i = 0 ∨ i = 1 ∨ i = 2 ∨ i = 3 ∨ i = 4 ∨ i = 5 ∨ i = 6 ∨ i = 7 ∨ i = 8 ∨ i = 9 ∨ i = 10 ∨ i = 11 ∨ i = 12 ∨ i = 13 ∨ i = 14 := by omega
  rcases this with rfl | rfl | rfl | rfl | rfl | rfl | rfl | rfl | rfl | rfl | rfl | rfl | rfl | rfl | rfl <;> exact ⟨_, rfl⟩
set_option maxRecDepth 100000 in
theorem kinds_of {W : World} {rest : List (String × DataW Unit)} (h : laidMet Tryz.prog (("choragus/msg.kinds", Rows.laid_choragus_msg_kinds) :: rest) W) : Kinds W := by
  obtain ⟨ps, ⟨g', t', cs, fuel, p, q, hg', ht', hvar, hd, _, _⟩, _⟩ := h
  obtain rfl := Option.some.inj (gKinds.symm.trans hg')
  obtain rfl := Option.some.inj (tKinds.symm.trans ht')
  obtain ⟨xs, m, _, hx, hl, hlen, hf⟩ := DataW.trod_array Tryz.underlying111 hd
  rw [cellsKinds] at hl
  simp only [cellsKind] at hf
  intro i hi
  have hfi := hf i hi
  have hxl : i < xs.length := by omega
  rw [List.getElem?_eq_getElem hxl] at hfi
  obtain ⟨s, n, e, e2⟩ := kind_cells hfi
  have hk : (xs[i].1 : DataW Unit) = kindD i := by
    have e3 := congrArg Prod.fst hx
    simp only at e3
    unfold kindD
    rw [e3]
    simp [List.getD, hxl]
  obtain ⟨t, et⟩ := kindD_has (H := Unit) hi
  rw [hk, et] at e2
  have hn : n = ((tabM i : Nat) : Int) := by
    injection e2 with e2
    injection e2 with _ e2
    injection e2 with e2 _
    injection e2 with e2
    injection e2 with _ e2
    exact e2.symm
  have hc := World.var?_cell gKinds hvar (i * 2 + 1)
  rw [hc]
  have := congrArg (·[1]?) e
  simp only [List.getElem?_take, List.getElem?_drop] at this
  simp at this
  rw [← hn]
  simpa using this
end Go.Proofs.YtjmkecaljkcoiaaGreatDoor
namespace Go.Proofs.YtjmkecaljkcoiaaGreatDoor
open Go.RowKit
set_option linter.unusedVariables false
def fillT (M : List UInt8) (k : Nat) : List Value := bvs (M.take k) ++ zeroBytes (M.length - k)
theorem fillT_zero (M : List UInt8) : fillT M 0 = zeroBytes M.length := by simp [fillT, bvs]
theorem fillT_full (M : List UInt8) : fillT M M.length = bvs M := by simp [fillT, zeroBytes]
theorem fillT_at (M : List UInt8) (k : Nat) (h : k < M.length) : (fillT M k)[k]? = some (.int .u8 0) := by
  rw [fillT, List.getElem?_append_right (by rw [bvs_len]; simp; omega), bvs_len, List.length_take, Nat.min_eq_left (by omega), Nat.sub_self, zeroBytes]
  rw [List.getElem?_replicate, if_pos (by omega)]
theorem fillT_step (M : List UInt8) (k : Nat) (h : k < M.length) : (fillT M k).set k (byteV M[k]) = fillT M (k + 1) := by
  have e1 : (bvs (M.take k)).length = k := by rw [bvs_len]; simp; omega
  have e2 : M.length - k = (M.length - (k + 1)) + 1 := by omega
  rw [fillT, fillT, List.set_append_right _ _ (by omega), e1, Nat.sub_self, e2, zeroBytes, List.replicate_succ, List.set_cons_zero, take_snoc h, bvs_snoc, List.append_assoc]
  rfl
def backT (M : List UInt8) (k : Nat) : List Value := zeroBytes k ++ bvs (M.drop k)
def BlkB (w : World) (g : Nat) (cs : List Value) : Prop := w.heap[g]? = some (.cells cs.toArray 5 (0, 0))
section
variable {w w' : World} {g : Nat} {cs : List Value}
theorem BlkB.lt (h : BlkB w g cs) : g < w.heap.size := lt_of_heap h
theorem BlkB.cell (h : BlkB w g cs) (i : Nat) : w.cell? ⟨g, i, none⟩ = cs[i]? := by
  have := cell_of_row w g i cs.toArray _ (0, 0) h
  simpa using this
theorem BlkB.frozen (h : BlkB w g cs) (i : Nat) : w.frozen? ⟨g, i, none⟩ = false := frozen_of_row w g i _ _ h
theorem BlkB.new (w : World) (cs : List Value) : BlkB (w.alloc (.cells cs.toArray 5)) w.heap.size cs := heap_alloc_new w _
theorem BlkB.drewN (h : BlkB w g cs) (k : Nat) : BlkB (w.drewN k) g cs := h
theorem BlkB.alloc (h : BlkB w g cs) (o : Obj) : BlkB (w.alloc o) g cs := (Below.heap_alloc w o g h.lt).trans h
theorem BlkB.set_ (h : BlkB w g cs) (i : Nat) (u : Value) : BlkB (w.setCell ⟨g, i, none⟩ u) g (cs.set i u) := by
  have := heap_setCell_same w g i cs.toArray _ u h
  unfold BlkB
  rw [this]; simp
theorem BlkB.below {B : Nat} (h : BlkB w g cs) (hb : Below B w w') (hg : g < B) : BlkB w' g cs := (hb.block g hg).trans h
theorem BlkB.later (h : BlkB w g cs) (hb : Below w.heap.size w w') : BlkB w' g cs := h.below hb h.lt
theorem BlkB.own {base n c : Nat} {l : List UInt8} (h : BlkB w g cs) (hb : base ≤ g) (hn : n ≤ c) (hc : c ≤ maxLen) (hl : cs.length = c) (ht : cs.take n = bvs l) (hln : l.length = n) : OwnB w base (.slice (some ⟨g, 0, none⟩) n c) n l :=
  own_of_cells h hb hn hc hl (by rw [bvs_len]; exact hln) ht
end
def lentL (l : List UInt8) : List UInt8 := l ++ List.replicate 8 165
theorem lentL_len (l : List UInt8) : (lentL l).length = l.length + 8 := by simp [lentL]
theorem lentL_lo {l : List UInt8} {k : Nat} (h : k < l.length) (h' : k < (lentL l).length) : (lentL l)[k] = l[k] := by simp [lentL, List.getElem_append_left, h]
theorem lentL_hi {l : List UInt8} {k : Nat} (h : l.length ≤ k) (h' : k < (lentL l).length) : (lentL l)[k] = 165 := by
  simp only [lentL]
  rw [List.getElem_append_right h, List.getElem_replicate]
def LentB (w : World) (g : Nat) (l : List UInt8) : Prop := BlkB w g (bvs (lentL l))
theorem LentB.own {w : World} {g n base : Nat} {l : List UInt8} (h : LentB w g l) (hb : base ≤ g) (hn : l.length = n) (hm : n ≤ 140737488355328) : OwnB w base (.slice (some ⟨g, 0, none⟩) n (n + 8)) n l := by
  refine BlkB.own h hb (by omega) (by unfold maxLen; omega) (by rw [bvs_len, lentL_len]; omega) ?_ hn
  rw [lentL, bvs_append, List.take_append_of_le_length (by rw [bvs_len]; omega), List.take_of_length_le (by rw [bvs_len]; omega)]
theorem LentB.bs {w : World} {g n : Nat} {l : List UInt8} (h : LentB w g l) (hn : l.length = n) (hm : n ≤ 140737488355328) : Bs w w.heap.size (some ⟨g, 0, none⟩) n l := (h.own (Nat.zero_le _) hn hm).bs
theorem lent_any (A : Option Addr) (n c : Nat) (l : List UInt8) (B : Nat) (w : World) (hA : Bs w B A n l) (hB : B ≤ w.heap.size) (hn : n ≤ 70368744177664) :
    Calls Tryz.prog 15 #[.slice A n c] w fun e w' => e = .returned (.slice (some ⟨w.heap.size, 0, none⟩) n (n + 8)) ∧ LentB w' w.heap.size l ∧ Below w.heap.size w w' := by
  have hmk := fun W => mk_bytes (n + 8) (n + 8) ((n : Int) + 8) (by omega) (by omega) (by omega) W
  have e8 : ((n + 8 : Nat) : Int) = (n : Int) + 8 := by omega
  rw [e8] at hmk
  clear e8
  have hlen := hA.len
  have HL := hide hlen
  clear hlen
  go_enter Tryz.func15, Tryz.ntmps15
  go_wp2
  go_loopw [4] (fun i wr => ∃ k : Nat, k ≤ n + 8 ∧ i = .int .i64 k ∧ BlkB wr w.heap.size (fillT (lentL l) k) ∧ Below w.heap.size w wr) (fun i _ => n + 8 - (intOf i).toNat)
  case atStart =>
    refine ⟨0, Nat.zero_le _, rfl, ?_, (Below.refl _ _).alloc (Nat.le_refl _) _⟩
    rw [fillT_zero, lentL_len, HL.out]
    exact BlkB.new w _
  case round =>
    obtain ⟨k, hk, rfl, hblk, hb⟩ := hrel
    by_cases hlt : k < n + 8
    · have hM : k < (lentL l).length := by rw [lentL_len, HL.out]; exact hlt
      have hcell : wr.cell? ⟨w.heap.size, k, none⟩ = some (.int .u8 0) := by rw [hblk.cell, fillT_at _ _ hM]
      have hfr := hblk.frozen k
      by_cases hkn : k < n
      · obtain ⟨ad, hl, rfl, hbl, hc⟩ := hA.at_ hkn
        have hc' := (hb.cell (by rw [block_of_add]; omega)).trans hc
        have hn2 := (hblk.set_ k (byteV l[k]))
        rw [← lentL_lo hl hM, fillT_step _ _ hM, lentL_lo hl hM] at hn2
        have hb2 := hb.setCell (p := ⟨w.heap.size, k, none⟩) (Nat.le_refl _) (byteV l[k])
        have HC := hide hc
        clear hc hblk hb
        unfold byteV at hc' hn2 hb2
        go_wp2
        go_roundw
        case rel => exact ⟨k + 1, by omega, by go_num, hn2, hb2⟩
        case measure => simp [intOf]; omega
      · have hn2 := (hblk.set_ k (byteV 165))
        have e := lentL_hi (by rw [HL.out]; omega) hM
        rw [← e, fillT_step _ _ hM, e] at hn2
        have hb2 := hb.setCell (p := ⟨w.heap.size, k, none⟩) (Nat.le_refl _) (byteV 165)
        clear hblk hb
        rw [show byteV 165 = .int .u8 165 from rfl] at hn2 hb2
        clear e
        go_wp2
        go_roundw
        case rel => exact ⟨k + 1, by omega, by go_num, hn2, hb2⟩
        case measure => simp [intOf]; omega
    · obtain rfl : k = n + 8 := by omega
      go_wp2
      go_ret
      refine ⟨rfl, ?_, hb⟩
      have e : n + 8 = (lentL l).length := by rw [lentL_len, HL.out]
      rw [e, fillT_full] at hblk
      exact hblk
theorem kept_any (A : Option Addr) (n c g : Nat) (l : List UInt8) (B : Nat) (w : World) (hA : Bs w B A n l) (hL : LentB w g l) (hn : n ≤ 70368744177664) :
    Calls Tryz.prog 19 #[.slice (some ⟨g, 0, none⟩) n (n + 8), .slice A n c] w fun e w' => e = .returned (.bool true) ∧ Drawn w w' := by
  have hlen := hA.len
  have hS := hL.bs hlen (by omega)
  have HL := hide hlen
  clear hlen
  have hcell : ∀ k, n ≤ k → k < n + 8 → ∀ nq, (w.drewN nq).cell? ⟨g, k, none⟩ = some (.int .u8 165) := by
    intro k h1 h2 nq
    have h3 : k < (lentL l).length := by rw [lentL_len, HL.out]; omega
    show w.cell? _ = _
    rw [BlkB.cell hL, bvs, List.getElem?_map, List.getElem?_eq_getElem h3, lentL_hi (by rw [HL.out]; exact h1) h3]
    rfl
  have HC := hide hcell
  clear hcell
  go_enter Tryz.func19, Tryz.ntmps19
  go_wp2_with fail
  refine (same_eq _ _ _ _ _ _ l l _ _ _ hS hA (by unfold maxLen; omega) rfl).mono ?_
  rintro e w' ⟨rfl, ⟨nq, rfl⟩⟩
  go_wp2
  go_loopw [6] (fun i wr => ∃ k : Nat, n ≤ k ∧ k ≤ n + 8 ∧ i = .int .i64 k ∧ Drawn w wr) (fun i _ => n + 8 - (intOf i).toNat)
  case atStart => exact ⟨n, Nat.le_refl _, by omega, rfl, drawn_one _ _⟩
  case round =>
    obtain ⟨k, hk1, hk, rfl, ⟨nr, rfl⟩⟩ := hrel
    by_cases hlt : k < n + 8
    · have hc := HC.out k hk1 hlt nr
      go_wp2
      go_roundw
      case rel => exact ⟨k + 1, by omega, by omega, by go_num, drawn_one _ _⟩
      case measure => simp [intOf]; omega
    · go_wp2
      go_ret
      exact ⟨rfl, drawn_one _ _⟩
end Go.Proofs.YtjmkecaljkcoiaaGreatDoor
namespace Go.Proofs.YtjmkecaljkcoiaaGreatDoor
open Go.RowKit
set_option linter.unusedVariables false
set_option linter.unusedSimpArgs false
def truS (s : RS) : Bool × RS := if s.t = 0 then (if truE s.l = 0 then (truV s.l, ⟨s.l.drop 1, 0⟩) else (false, ⟨s.l, truE s.l⟩)) else (false, s)
def blOf (l : List UInt8) : Bl := ⟨(getF l).1 % 4294967296, prOf (l.drop (getF l).2.1), Nat.mod_lt _ (by decide)⟩
def balS (s : RS) : Bl × RS := if s.t = 0 then (if balE s.l = 0 then (blOf s.l, ⟨(s.l.drop (getF s.l).2.1).drop (pidG (s.l.drop (getF s.l).2.1)).2.2.1, 0⟩) else (default, ⟨s.l, balE s.l⟩)) else (default, s)
theorem truS_stop {s : RS} (h : s.t ≠ 0) : truS s = (false, s) := if_neg h
theorem balS_stop {s : RS} (h : s.t ≠ 0) : balS s = (default, s) := if_neg h
theorem truS_len (s : RS) : (truS s).2.l.length ≤ s.l.length := by
  unfold truS; split
  · split
    · simp
    · exact Nat.le_refl _
  · exact Nat.le_refl _
theorem balS_len (s : RS) : (balS s).2.l.length ≤ s.l.length := by
  unfold balS; split
  · split
    · simp only [List.length_drop]; omega
    · exact Nat.le_refl _
  · exact Nat.le_refl _
theorem bal_fits {l : List UInt8} (h : balE l = 0) : (getF l).1 < 4294967296 := by
  unfold balE at h
  split at h
  · next h1 => have := numE_le h1; omega
  · next h1 => exact absurd h h1
def kindM (k : Nat) : Ms := ⟨(k : Int), default, 0, 0, 0, 0, default, default, false, zC 0 noV, noV, []⟩
def st0 (q : Nat) (x : Ms × RS) : Ms × RS := if q.testBit 0 then ({ x.1 with who := (pidQ x.2).1 }, (pidQ x.2).2) else x
def st1 (q : Nat) (x : Ms × RS) : Ms × RS := if q.testBit 1 then ({ x.1 with view := (numS 4611686018427387904 x.2).1 }, (numS 4611686018427387904 x.2).2) else x
def st2 (q : Nat) (x : Ms × RS) : Ms × RS := if q.testBit 2 then ({ x.1 with slot := (numS 4611686018427387904 x.2).1 }, (numS 4611686018427387904 x.2).2) else x
def st3 (q : Nat) (x : Ms × RS) : Ms × RS := if q.testBit 3 then ({ x.1 with b := (balS x.2).1 }, (balS x.2).2) else x
def st4 (q : Nat) (x : Ms × RS) : Ms × RS := if q.testBit 4 then ({ x.1 with num := (numS 4611686018427387904 x.2).1 }, (numS 4611686018427387904 x.2).2) else x
def st5 (q : Nat) (x : Ms × RS) : Ms × RS := if q.testBit 5 then ({ x.1 with hops := ((numS 4 x.2).1 : Nat) }, (numS 4 x.2).2) else x
def st6 (q : Nat) (x : Ms × RS) : Ms × RS := if q.testBit 6 then ({ x.1 with has := (truS x.2).1 }, (truS x.2).2) else x
def st7 (q : Nat) (x : Ms × RS) : Ms × RS := if q.testBit 7 then ({ x.1 with a := (balS x.2).1 }, (balS x.2).2) else x
noncomputable def st8 (q : Nat) (x : Ms × RS) : Ms × RS := if q.testBit 8 then ({ x.1 with c := (cmdS x.2).1 }, (cmdS x.2).2) else x
noncomputable def st9 (q : Nat) (x : Ms × RS) : Ms × RS := if q.testBit 9 then ({ x.1 with v := (viewS x.2).1 }, (viewS x.2).2) else x
def st10 (q : Nat) (x : Ms × RS) : Ms × RS := if q.testBit 10 then ({ x.1 with d := (bytS 200 x.2).1 }, (bytS 200 x.2).2) else x
def getA (k : Nat) (s : RS) : Ms × RS := st6 (tabM k) (st5 (tabM k) (st4 (tabM k) (st3 (tabM k) (st2 (tabM k) (st1 (tabM k) (st0 (tabM k) (kindM k, s)))))))
noncomputable def getB (q : Nat) (x : Ms × RS) : Ms × RS := st10 q (st9 q (st8 q (st7 q x)))
noncomputable def getM (s : RS) : Ms × RS := getB (bitsM (numS 14 s).1 (getA (numS 14 s).1 (numS 14 s).2).1.has) (getA (numS 14 s).1 (numS 14 s).2)
open Classical in
noncomputable def decM (l : List UInt8) : Ms × Nat :=
  if endF (getM ⟨l, 0⟩).2.l (getM ⟨l, 0⟩).2.t ≠ 0 then (kindM 0, endF (getM ⟨l, 0⟩).2.l (getM ⟨l, 0⟩).2.t) else if MayM (getM ⟨l, 0⟩).1 then ((getM ⟨l, 0⟩).1, 0) else (kindM 0, 5)
theorem decM_err {l : List UInt8} (h : endF (getM ⟨l, 0⟩).2.l (getM ⟨l, 0⟩).2.t ≠ 0) : decM l = (kindM 0, endF (getM ⟨l, 0⟩).2.l (getM ⟨l, 0⟩).2.t) := by unfold decM; rw [if_pos h]
theorem decM_yes {l : List UInt8} (h : endF (getM ⟨l, 0⟩).2.l (getM ⟨l, 0⟩).2.t = 0) (hm : MayM (getM ⟨l, 0⟩).1) : decM l = ((getM ⟨l, 0⟩).1, 0) := by unfold decM; rw [if_neg (by rw [h]; simp), if_pos hm]
theorem decM_no {l : List UInt8} (h : endF (getM ⟨l, 0⟩).2.l (getM ⟨l, 0⟩).2.t = 0) (hm : ¬ MayM (getM ⟨l, 0⟩).1) : decM l = (kindM 0, 5) := by unfold decM; rw [if_neg (by rw [h]; simp), if_neg hm]
end Go.Proofs.YtjmkecaljkcoiaaGreatDoor
