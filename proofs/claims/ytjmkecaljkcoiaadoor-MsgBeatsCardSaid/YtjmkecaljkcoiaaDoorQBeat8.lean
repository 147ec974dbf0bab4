import Derived.Test.YtjmkecaljkcoiaaDoorQOpenC
import Derived.Test.YtjmkecaljkcoiaaDoorQCmd6
import Derived.Test.YtjmkecaljkcoiaaDoorQBeat6
namespace Go.Proofs.YtjmkecaljkcoiaaDoor
open Go.RowKit Go.Maps
set_option linter.unusedVariables false
set_option linter.unusedSimpArgs false
theorem rdnum_tot (b most : Nat) (s : RS) (w : World) (h : RdAt w b s.l s.t) (hm : most < 18446744073709551616) :
    Calls Tryd.prog 52 #[.pointer (some ⟨b, 0, none⟩), .int .u64 (most : Int)] w (ReadsP w b (.int .u64 ((numS most s).1 : Nat)) (numS most s).2.l (numS most s).2.t) := by
  obtain ⟨l, t⟩ := s
  dsimp only at h
  by_cases ht : t = 0
  · subst ht
    by_cases hE : numE l most = 0
    · have e : numS most ⟨l, 0⟩ = ((getF l).1, ⟨l.drop (getF l).2.1, 0⟩) := by unfold numS; rw [if_pos rfl, if_pos hE]
      rw [e]
      exact rdnum_ok b l most w h hm hE
    · have e : numS most ⟨l, 0⟩ = (0, ⟨l, numE l most⟩) := by unfold numS; rw [if_pos rfl, if_neg hE]
      rw [e]
      exact rdnum_bad b l most w h hm hE
  · rw [numS_stop (s := ⟨l, t⟩) ht]
    exact rdnum_stop b t l most w h ht
def BytT (w : World) (b : Nat) (r : List UInt8 × RS) (e : Ending) (w' : World) : Prop := ∃ A c, e = .returned (.slice A r.1.length c) ∧ OwnB w' w.heap.size (.slice A r.1.length c) r.1.length r.1 ∧ RdAt w' b r.2.l r.2.t ∧ Turn w w' b none
def PidsT (w : World) (b : Nat) (r : List Pr × RS) (e : Ending) (w' : World) : Prop := ∃ A c, e = .returned (.slice A r.1.length c) ∧ OwnP w' w.heap.size (.slice A r.1.length c) r.1.length r.1 ∧ RdAt w' b r.2.l r.2.t ∧ Turn w w' b none
theorem rdpids_tot (b : Nat) (most : Nat) (s : RS) (w : World) (h : RdAt w b s.l s.t) (hm : most ≤ 1000000) :
    Calls Tryd.prog 54 #[.pointer (some ⟨b, 0, none⟩), .int .i64 (most : Int)] w (PidsT w b (pidsS most s)) := by
  obtain ⟨l, t⟩ := s
  dsimp only at h
  have hmf : mostF (most : Int) = most := by unfold mostF; simp
  by_cases ht : t = 0
  · subst ht
    refine (rdpids_any b l most w h (by omega) (by omega)).mono fun e w' hw => ?_
    rw [hmf] at hw
    rcases hw with ⟨hE, v, h1, ⟨A, c, h2, h3⟩, h4, h5⟩ | ⟨hE, h1, h2, h3⟩
    · have e : pidsS most ⟨l, 0⟩ = (psV l, ⟨psR l, 0⟩) := by unfold pidsS; rw [if_pos rfl, if_pos hE]
      rw [e]
      exact ⟨A, c, by rw [h1, h2], h3, h4, h5⟩
    · have e : pidsS most ⟨l, 0⟩ = ([], ⟨l, psE l most⟩) := by unfold pidsS; rw [if_pos rfl, if_neg hE]
      rw [e]
      exact ⟨none, 0, h1, OwnE.nil_ _ _, h2, h3⟩
  · rw [pidsS_stop (s := ⟨l, t⟩) ht]
    exact (rdpids_stop b t l most w h ht).mono fun e w' ⟨h1, h2, h3⟩ => ⟨none, 0, h1, OwnE.nil_ _ _, h2, h3⟩
end Go.Proofs.YtjmkecaljkcoiaaDoor
namespace Go.Proofs.YtjmkecaljkcoiaaDoor
open Go.RowKit
set_option linter.unusedVariables false
set_option linter.unusedSimpArgs false
def truS (s : RS) : Bool × RS := if s.t = 0 then (if truE s.l = 0 then (truV s.l, ⟨s.l.drop 1, 0⟩) else (false, ⟨s.l, truE s.l⟩)) else (false, s)
def blOf (l : List UInt8) : Bl := ⟨(getF l).1 % 4294967296, prOf (l.drop (getF l).2.1), Nat.mod_lt _ (by decide)⟩
def balS (s : RS) : Bl × RS := if s.t = 0 then (if balE s.l = 0 then (blOf s.l, ⟨(s.l.drop (getF s.l).2.1).drop (pidG (s.l.drop (getF s.l).2.1)).2.2.1, 0⟩) else (default, ⟨s.l, balE s.l⟩)) else (default, s)
def kindM (k : Nat) : Ms := ⟨(k : Int), default, 0, 0, 0, 0, default, default, false, zC 0 noV, noV, []⟩
def st0 (q : Nat) (x : Ms × RS) : Ms × RS := if q.testBit 0 then ({ x.1 with who := (pidQ x.2).1 }, (pidQ x.2).2) else x
def st1 (q : Nat) (x : Ms × RS) : Ms × RS := if q.testBit 1 then ({ x.1 with view := (numS 4611686018427387904 x.2).1 }, (numS 4611686018427387904 x.2).2) else x
def st2 (q : Nat) (x : Ms × RS) : Ms × RS := if q.testBit 2 then ({ x.1 with slot := (numS 4611686018427387904 x.2).1 }, (numS 4611686018427387904 x.2).2) else x
def st3 (q : Nat) (x : Ms × RS) : Ms × RS := if q.testBit 3 then ({ x.1 with b := (balS x.2).1 }, (balS x.2).2) else x
def st4 (q : Nat) (x : Ms × RS) : Ms × RS := if q.testBit 4 then ({ x.1 with num := (numS 4611686018427387904 x.2).1 }, (numS 4611686018427387904 x.2).2) else x
def st5 (q : Nat) (x : Ms × RS) : Ms × RS := if q.testBit 5 then ({ x.1 with hops := ((numS 4 x.2).1 : Nat) }, (numS 4 x.2).2) else x
def st6 (q : Nat) (x : Ms × RS) : Ms × RS := if q.testBit 6 then ({ x.1 with has := (truS x.2).1 }, (truS x.2).2) else x
def st7 (q : Nat) (x : Ms × RS) : Ms × RS := if q.testBit 7 then ({ x.1 with a := (balS x.2).1 }, (balS x.2).2) else x
noncomputable def st8 (q : Nat) (x : Ms × RS) : Ms × RS := if q.testBit 8 then ({ x.1 with c := (cmdS x.2).1 }, (cmdS x.2).2) else x
noncomputable def st9 (q : Nat) (x : Ms × RS) : Ms × RS := if q.testBit 9 then ({ x.1 with v := (viewS x.2).1 }, (viewS x.2).2) else x
def st10 (q : Nat) (x : Ms × RS) : Ms × RS := if q.testBit 10 then ({ x.1 with d := (bytS 200 x.2).1 }, (bytS 200 x.2).2) else x
def getA (k : Nat) (s : RS) : Ms × RS := st6 (tabM k) (st5 (tabM k) (st4 (tabM k) (st3 (tabM k) (st2 (tabM k) (st1 (tabM k) (st0 (tabM k) (kindM k, s)))))))
noncomputable def getB (q : Nat) (x : Ms × RS) : Ms × RS := st10 q (st9 q (st8 q (st7 q x)))
noncomputable def getM (s : RS) : Ms × RS := getB (bitsM (numS 14 s).1 (getA (numS 14 s).1 (numS 14 s).2).1.has) (getA (numS 14 s).1 (numS 14 s).2)
open Classical in
noncomputable def decM (l : List UInt8) : Ms × Nat :=
  if endF (getM ⟨l, 0⟩).2.l (getM ⟨l, 0⟩).2.t ≠ 0 then (kindM 0, endF (getM ⟨l, 0⟩).2.l (getM ⟨l, 0⟩).2.t) else if MayM (getM ⟨l, 0⟩).1 then ((getM ⟨l, 0⟩).1, 0) else (kindM 0, 5)
end Go.Proofs.YtjmkecaljkcoiaaDoor
namespace Go.Proofs.YtjmkecaljkcoiaaDoor
open Go.RowKit Go.Maps
set_option linter.unusedVariables false
set_option linter.unusedSimpArgs false
def zeroBt : Bt := ⟨0, 0, 0, 0, []⟩
def stBt (s : RS) : Nat → RS
  | 0 => s
  | j + 1 => (numS 4611686018427387904 (stBt s j)).2
def nmBt (s : RS) (j : Nat) : Nat := (numS 4611686018427387904 (stBt s j)).1
def getBt (s : RS) : Bt × RS := (⟨nmBt s 0, nmBt s 1, nmBt s 2, nmBt s 3, (pidsS 24 (stBt s 4)).1⟩, (pidsS 24 (stBt s 4)).2)
open Classical in
noncomputable def decBt (l : List UInt8) : Bt × Nat :=
  if endF (getBt ⟨l, 0⟩).2.l (getBt ⟨l, 0⟩).2.t ≠ 0 then (zeroBt, endF (getBt ⟨l, 0⟩).2.l (getBt ⟨l, 0⟩).2.t) else if MayB (getBt ⟨l, 0⟩).1 then ((getBt ⟨l, 0⟩).1, 0) else (zeroBt, 5)
theorem decBt_err {l : List UInt8} (h : endF (getBt ⟨l, 0⟩).2.l (getBt ⟨l, 0⟩).2.t ≠ 0) : decBt l = (zeroBt, endF (getBt ⟨l, 0⟩).2.l (getBt ⟨l, 0⟩).2.t) := by unfold decBt; rw [if_pos h]
theorem decBt_yes {l : List UInt8} (h : endF (getBt ⟨l, 0⟩).2.l (getBt ⟨l, 0⟩).2.t = 0) (hm : MayB (getBt ⟨l, 0⟩).1) : decBt l = ((getBt ⟨l, 0⟩).1, 0) := by unfold decBt; rw [if_neg (by rw [h]; decide), if_pos hm]
theorem decBt_no {l : List UInt8} (h : endF (getBt ⟨l, 0⟩).2.l (getBt ⟨l, 0⟩).2.t = 0) (hm : ¬ MayB (getBt ⟨l, 0⟩).1) : decBt l = (zeroBt, 5) := by unfold decBt; rw [if_neg (by rw [h]; decide), if_neg hm]
theorem getBt_front {b : Bt} (h : MayB b) : getBt ⟨formB b, 0⟩ = (b, ⟨[], 0⟩) := by
  obtain ⟨v, a, l, s, q⟩ := b
  obtain ⟨h0, h1, h2, h3, h4, _⟩ := h
  dsimp only at h0 h1 h2 h3 h4
  have e : formB ⟨v, a, l, s, q⟩ = shortL v ++ (shortL a ++ (shortL l ++ (shortL s ++ (shortL q.length ++ (pidsL q ++ []))))) := by
    unfold formB; simp only [List.append_assoc, List.append_nil]
  have s1 := numS_front v 4611686018427387904 (shortL a ++ (shortL l ++ (shortL s ++ (shortL q.length ++ (pidsL q ++ []))))) (by omega) h0
  have s2 := numS_front a 4611686018427387904 (shortL l ++ (shortL s ++ (shortL q.length ++ (pidsL q ++ [])))) (by omega) h1
  have s3 := numS_front l 4611686018427387904 (shortL s ++ (shortL q.length ++ (pidsL q ++ []))) (by omega) h2
  have s4 := numS_front s 4611686018427387904 (shortL q.length ++ (pidsL q ++ [])) (by omega) h3
  have s5 := pidsS_front q [] 24 h4 (by decide)
  have t1 : stBt ⟨formB ⟨v, a, l, s, q⟩, 0⟩ 1 = ⟨shortL a ++ (shortL l ++ (shortL s ++ (shortL q.length ++ (pidsL q ++ [])))), 0⟩ := by
    show (numS _ ⟨formB ⟨v, a, l, s, q⟩, 0⟩).2 = _
    rw [e, s1]
  have t2 : stBt ⟨formB ⟨v, a, l, s, q⟩, 0⟩ 2 = ⟨shortL l ++ (shortL s ++ (shortL q.length ++ (pidsL q ++ []))), 0⟩ := by
    show (numS _ (stBt ⟨formB ⟨v, a, l, s, q⟩, 0⟩ 1)).2 = _
    rw [t1, s2]
  have t3 : stBt ⟨formB ⟨v, a, l, s, q⟩, 0⟩ 3 = ⟨shortL s ++ (shortL q.length ++ (pidsL q ++ [])), 0⟩ := by
    show (numS _ (stBt ⟨formB ⟨v, a, l, s, q⟩, 0⟩ 2)).2 = _
    rw [t2, s3]
  have t4 : stBt ⟨formB ⟨v, a, l, s, q⟩, 0⟩ 4 = ⟨shortL q.length ++ (pidsL q ++ []), 0⟩ := by
    show (numS _ (stBt ⟨formB ⟨v, a, l, s, q⟩, 0⟩ 3)).2 = _
    rw [t3, s4]
  unfold getBt nmBt
  rw [t1, t2, t3, t4, s2, s3, s4, s5]
  show (Bt.mk (numS _ ⟨formB ⟨v, a, l, s, q⟩, 0⟩).1 a l s q, _) = _
  rw [e, s1]
theorem decBt_front {b : Bt} (h : MayB b) : decBt (formB b) = (b, 0) := by
  have e := getBt_front h
  have h0 : endF (getBt ⟨formB b, 0⟩).2.l (getBt ⟨formB b, 0⟩).2.t = 0 := by rw [e]; rfl
  rw [decBt_yes h0 (by rw [e]; exact h), e]
end Go.Proofs.YtjmkecaljkcoiaaDoor
namespace Go.Proofs.YtjmkecaljkcoiaaDoor
open Go.RowKit Go.Maps
set_option linter.unusedVariables false
set_option linter.unusedSimpArgs false
set_option maxRecDepth 100000 in
theorem beatof_any (v a l s : Nat) (A : Option Addr) (n c : Nat) (w : World) :
    Calls Tryd.prog 53 #[.agg #[.int .u64 (v : Int), .int .u64 (a : Int), .int .u64 (l : Int), .int .u64 (s : Int)], .slice A n c] w fun e w' =>
      e = .returned (.agg #[.int .u64 (v : Int), .int .u64 (a : Int), .int .u64 (l : Int), .int .u64 (s : Int), .slice A n c]) ∧ Below w.heap.size w w' := by
  have h0 : Below w.heap.size w (w.alloc (.cells #[.int .u64 (v : Int), .int .u64 (a : Int), .int .u64 (l : Int), .int .u64 (s : Int)] 88)) := (Below.refl _ _).alloc (Nat.le_refl _) _
  go_enter Tryd.func53, Tryd.ntmps53
  go_wp2
  refine bodyPost_ret (v := .agg #[.int .u64 (v : Int), .int .u64 (a : Int), .int .u64 (l : Int), .int .u64 (s : Int), .slice A n c]) (by simp [results, Tryd.results53, go_sem]) rfl ⟨rfl, ?_⟩
  repeat (first | exact (h0.alloc (by simp) _) | refine Below.setCell ?_ (by simp) _ | refine Below.setRow ?_ (by simp) _)
end Go.Proofs.YtjmkecaljkcoiaaDoor
