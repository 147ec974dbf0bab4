/-
  What is read of a beginning is read of the whole, too. No program in sight.
-/
import Derived.Test.YtjmkecaljkcoiaaDoorQMsg10L
namespace Go.Proofs.YtjmkecaljkcoiaaDoor
open Go.RowKit
set_option linter.unusedVariables false
theorem getR_ext : ∀ (l t : List UInt8) (j acc : Nat), (getR j acc l).2.2 = 0 → getR j acc (l ++ t) = getR j acc l
  | [], t, j, acc, h => by simp [getR] at h
  | x :: l, t, j, acc, h => by
    rw [List.cons_append]
    rw [getR] at h ⊢
    rw [getR]
    split
    · rfl
    · next h1 =>
      rw [if_neg h1] at h
      split
      · next h2 =>
        rw [if_pos h2] at h
        exact getR_ext l t _ _ h
      · rfl
theorem getF_ext {l : List UInt8} (t : List UInt8) (h : (getF l).2.2 = 0) : getF (l ++ t) = getF l := getR_ext l t 0 0 h
theorem drop_ext {l : List UInt8} (t : List UInt8) {k : Nat} (h : k ≤ l.length) : (l ++ t).drop k = l.drop k ++ t := List.drop_append_of_le_length h
/-- A reader: once stopped it stays; and what it reads of a beginning it reads of the whole. -/
structure Ext {α : Type} (R : RS → α × RS) : Prop where
  stop : ∀ s, s.t ≠ 0 → (R s).2 = s
  ext : ∀ l t, (R ⟨l, 0⟩).2.t = 0 → R ⟨l ++ t, 0⟩ = ((R ⟨l, 0⟩).1, ⟨(R ⟨l, 0⟩).2.l ++ t, 0⟩)
theorem Ext.go {α : Type} {R : RS → α × RS} (h : Ext R) {s : RS} (hs : (R s).2.t = 0) : s.t = 0 := by
  apply Classical.byContradiction
  intro hn
  rw [h.stop s hn] at hs
  exact hn hs
theorem Ext.pure_ {α : Type} (a : α) : Ext (fun s => (a, s)) := ⟨fun _ _ => rfl, fun _ _ _ => rfl⟩
theorem Ext.map_ {α β : Type} {R : RS → α × RS} (h : Ext R) (f : α → β) : Ext (fun s => (f (R s).1, (R s).2)) :=
  ⟨fun s hs => h.stop s hs, fun l t ht => by
    have e := h.ext l t ht
    dsimp only
    rw [e]⟩
theorem rs_eta {s : RS} (h : s.t = 0) : s = ⟨s.l, 0⟩ := by cases s; simp only at h; subst h; rfl
theorem Ext.bind_ {α β : Type} {R : RS → α × RS} {F : α → RS → β × RS} (h : Ext R) (hF : ∀ a, Ext (F a)) : Ext (fun s => F (R s).1 (R s).2) :=
  ⟨fun s hs => by
    try dsimp only
    rw [(hF _).stop _ (by rw [h.stop s hs]; exact hs), h.stop s hs], fun l t ht => by
    try dsimp only at ht ⊢
    have h1 := (hF _).go ht
    have e := h.ext l t h1
    rw [e]
    try dsimp only
    have e2 := rs_eta h1
    rw [e2] at ht ⊢
    exact (hF _).ext _ t ht⟩
open Classical in
theorem Ext.chk {α : Type} {R : RS → α × RS} (h : Ext R) (P : α → Prop) (d : α) : Ext (fun s => if (R s).2.t = 0 then (if P (R s).1 then ((R s).1, (R s).2) else (d, ⟨(R s).2.l, 5⟩)) else (d, (R s).2)) :=
  ⟨fun s hs => by
    try dsimp only
    rw [if_neg (by rw [h.stop s hs]; exact hs)]
    exact h.stop s hs, fun l t ht => by
    try dsimp only at ht ⊢
    by_cases h1 : (R ⟨l, 0⟩).2.t = 0
    · rw [if_pos h1] at ht
      by_cases h2 : P (R ⟨l, 0⟩).1
      · have e := h.ext l t h1
        rw [e]
        try dsimp only
        rw [if_pos rfl, if_pos h1, if_pos h2, if_pos h2]
      · rw [if_neg h2] at ht
        cases ht
    · rw [if_neg h1] at ht
      exact absurd ht h1⟩
theorem ext_num (most : Nat) : Ext (numS most) :=
  ⟨fun s hs => by rw [numS_stop hs], fun l t ht => by
    unfold numS at ht ⊢
    simp only [if_true] at ht ⊢
    by_cases hE : numE l most = 0
    · have hg : (getF l).2.2 = 0 := by
        unfold numE at hE
        split at hE
        · next h => exact h
        · next h => exact absurd hE h
      have e := getF_ext t hg
      have hE2 : numE (l ++ t) most = 0 := by unfold numE at hE ⊢; rw [e]; exact hE
      rw [if_pos hE, if_pos hE2, e, drop_ext t (getF_bds l).2.1]
    · rw [if_neg hE] at ht
      exact absurd ht hE⟩
theorem pidG_ext {l : List UInt8} (t : List UInt8) (h : (pidG l).2.2.2 = 0) : pidG (l ++ t) = pidG l ∧ (pidG l).2.2.1 ≤ l.length := by
  by_cases h1 : (getF l).2.2 = 0
  · have e1 := getF_ext t h1
    have b1 := (getF_bds l).2.1
    by_cases h2 : (getF (l.drop (getF l).2.1)).2.2 = 0
    · have e2 := getF_ext t h2
      have b2 := (getF_bds (l.drop (getF l).2.1)).2.1
      rw [List.length_drop] at b2
      by_cases h3 : (getF l).1 < 65536 ∧ (getF (l.drop (getF l).2.1)).1 < 4294967296
      · have e4 := pidG_4 h1 h2 h3
        have e5 := pidG_4 (l := l ++ t) (by rw [e1]; exact h1) (by rw [e1, drop_ext t b1, e2]; exact h2) (by rw [e1, drop_ext t b1, e2]; exact h3)
        rw [e1, drop_ext t b1, e2] at e5
        refine ⟨e5.trans e4.symm, ?_⟩
        rw [e4]
        show (getF l).2.1 + (getF (l.drop (getF l).2.1)).2.1 ≤ l.length
        omega
      · rw [pidG_3 h1 h2 h3] at h
        cases h
    · rw [pidG_2 h1 h2] at h
      exact absurd h h2
  · rw [pidG_1 h1] at h
    exact absurd h h1
theorem prOf_ext {l : List UInt8} (t : List UInt8) (h : (pidG l).2.2.2 = 0) : prOf (l ++ t) = prOf l := by
  have e := (pidG_ext t h).1
  exact Pr.ext (by show (pidG _).1 = (pidG _).1; rw [e]) (by show (pidG _).2.1 = (pidG _).2.1; rw [e])
theorem ext_pid : Ext pidQ :=
  ⟨fun s hs => by rw [pidQ_stop hs], fun l t ht => by
    unfold pidQ at ht ⊢
    simp only [if_true] at ht ⊢
    by_cases hE : (pidG l).2.2.2 = 0
    · obtain ⟨e, b⟩ := pidG_ext t hE
      rw [if_pos hE, e, if_pos hE, prOf_ext t hE, drop_ext t b]
    · rw [if_neg hE] at ht
      exact absurd ht hE⟩
theorem ext_tru : Ext truS :=
  ⟨fun s hs => by rw [truS_stop hs], fun l t ht => by
    unfold truS at ht ⊢
    simp only [if_true] at ht ⊢
    by_cases hE : truE l = 0
    · rw [if_pos hE]
      cases l with
      | nil => cases hE
      | cons x l =>
        have hE2 : truE (x :: l ++ t) = 0 := hE
        rw [if_pos hE2]
        rfl
    · rw [if_neg hE] at ht
      exact absurd ht hE⟩
theorem ext_bal : Ext balS :=
  ⟨fun s hs => by rw [balS_stop hs], fun l t ht => by
    unfold balS at ht ⊢
    simp only [if_true] at ht ⊢
    by_cases hE : balE l = 0
    · rw [if_pos hE]
      have hn : numE l 4294967295 = 0 := by
        unfold balE at hE
        split at hE
        · next h => exact h
        · next h => exact absurd hE h
      have hg : (getF l).2.2 = 0 := by
        unfold numE at hn
        split at hn
        · next h => exact h
        · next h => exact absurd hn h
      have e := getF_ext t hg
      have b := (getF_bds l).2.1
      have hp : (pidG (l.drop (getF l).2.1)).2.2.2 = 0 := by unfold balE at hE; rw [if_pos hn] at hE; exact hE
      obtain ⟨e2, b2⟩ := pidG_ext t hp
      have hE2 : balE (l ++ t) = 0 := by
        unfold balE numE at *
        rw [e, drop_ext t b, e2]
        exact hE
      have eb : blOf (l ++ t) = blOf l := by
        refine Bl.ext ?_ ?_
        · show (getF _).1 % _ = (getF _).1 % _
          rw [e]
        · show prOf _ = prOf _
          rw [e, drop_ext t b]
          exact prOf_ext t hp
      rw [if_pos hE2, eb, e, drop_ext t b, e2, drop_ext t b2]
    · rw [if_neg hE] at ht
      exact absurd ht hE⟩
theorem ext_byt (most : Nat) : Ext (bytS most) :=
  ⟨fun s hs => by rw [bytS_stop hs], fun l t ht => by
    unfold bytS at ht ⊢
    simp only [if_true] at ht ⊢
    by_cases hE : bytE l most = 0
    · rw [if_pos hE]
      have hE' := hE
      unfold bytE at hE'
      by_cases hn : numE l most = 0
      · rw [if_pos hn] at hE'
        have hg : (getF l).2.2 = 0 := by
          unfold numE at hn
          split at hn
          · next h => exact h
          · next h => exact absurd hn h
        have e := getF_ext t hg
        have b := (getF_bds l).2.1
        have hle : (getF l).1 ≤ (l.drop (getF l).2.1).length := by
          split at hE'
          · cases hE'
          · omega
        have hn2 : numE (l ++ t) most = 0 := by unfold numE at hn ⊢; rw [e]; exact hn
        have hE2 : bytE (l ++ t) most = 0 := by
          unfold bytE
          rw [if_pos hn2, e, drop_ext t b, if_neg (by rw [List.length_append]; omega)]
        rw [if_pos hE2]
        unfold bytV bytR
        rw [e, drop_ext t b, List.take_append_of_le_length hle, drop_ext t hle]
      · rw [if_neg hn] at hE'
        exact absurd hE' hn
    · rw [if_neg hE] at ht
      exact absurd ht hE⟩
theorem prd_ext : ∀ (n : Nat) (l t : List UInt8), (prd n l).2.2 = 0 → prd n (l ++ t) = ((prd n l).1, (prd n l).2.1 ++ t, 0)
  | 0, l, t, h => rfl
  | n + 1, l, t, h => by
    rw [prd] at h
    by_cases hE : (pidG l).2.2.2 = 0
    · rw [if_pos hE] at h
      obtain ⟨e, b⟩ := pidG_ext t hE
      have ih := prd_ext n (l.drop (pidG l).2.2.1) t h
      rw [prd, prd, e, if_pos hE, if_pos hE, prOf_ext t hE, drop_ext t b, ih]
    · rw [if_neg hE] at h
      exact absurd h hE
theorem ext_pids (most : Nat) : Ext (pidsS most) :=
  ⟨fun s hs => by rw [pidsS_stop hs], fun l t ht => by
    unfold pidsS at ht ⊢
    simp only [if_true] at ht ⊢
    by_cases hE : psE l most = 0
    · rw [if_pos hE]
      have hE' := hE
      unfold psE at hE'
      by_cases hn : numE l most = 0
      · rw [if_pos hn] at hE'
        have hg : (getF l).2.2 = 0 := by
          unfold numE at hn
          split at hn
          · next h => exact h
          · next h => exact absurd hn h
        have e := getF_ext t hg
        have b := (getF_bds l).2.1
        have hn2 : numE (l ++ t) most = 0 := by unfold numE at hn ⊢; rw [e]; exact hn
        have ep := prd_ext (getF l).1 (l.drop (getF l).2.1) t hE'
        have hE2 : psE (l ++ t) most = 0 := by
          unfold psE
          rw [if_pos hn2, e, drop_ext t b, ep]
        rw [if_pos hE2]
        unfold psV psR
        rw [e, drop_ext t b, ep]
      · rw [if_neg hn] at hE'
        exact absurd hE' hn
    · rw [if_neg hE] at ht
      exact absurd ht hE⟩
theorem ext_som (mem : List Pr) : ∀ n, Ext (somR mem n)
  | 0 => Ext.pure_ []
  | n + 1 =>
    ⟨fun s hs => by
      rw [somR, if_neg (by rw [(ext_num _).stop s hs]; exact hs)]
      exact (ext_num _).stop s hs, fun l t ht => by
      rw [somR] at ht
      by_cases h1 : (numS (mem.length - 1) ⟨l, 0⟩).2.t = 0
      · rw [if_pos h1] at ht
        have e := (ext_num (mem.length - 1)).ext l t h1
        have e2 := rs_eta h1
        have ih := (ext_som mem n).ext (numS (mem.length - 1) ⟨l, 0⟩).2.l t (by rw [← e2]; exact ht)
        rw [← e2] at ih
        rw [somR, somR, e, if_pos h1]
        dsimp only
        rw [if_pos rfl, ih]
      · rw [if_neg h1] at ht
        exact absurd ht h1⟩
theorem ext_some (mem : List Pr) : Ext (someS mem) := by
  have h : someS mem = fun s => (fun (k : Nat) (s : RS) => if k = 0 then (([] : List Pr), s) else if mem = [] then ([], ⟨s.l, 3⟩) else somR mem k s) (numS 24 s).1 (numS 24 s).2 := rfl
  refine ⟨fun s hs => ?_, fun l t ht => ?_⟩
  · rw [h]
    dsimp only
    rw [numS_stop hs]
    rfl
  · rw [h] at ht ⊢
    dsimp only at ht ⊢
    have h1 : (numS 24 ⟨l, 0⟩).2.t = 0 := by
      apply Classical.byContradiction
      intro hn
      rw [numS_zero hn, if_pos rfl] at ht
      exact hn ht
    have e := (ext_num 24).ext l t h1
    have e2 := rs_eta h1
    rw [e]
    dsimp only
    by_cases hk : (numS 24 ⟨l, 0⟩).1 = 0
    · rw [if_pos hk, if_pos hk]
    · rw [if_neg hk] at ht ⊢
      rw [if_neg hk]
      by_cases hm : mem = []
      · rw [if_pos hm] at ht
        cases ht
      · rw [if_neg hm] at ht ⊢
        rw [if_neg hm]
        rw [e2] at ht ⊢
        exact (ext_som mem _).ext _ t ht
theorem ext_lvs (mem : List Pr) : ∀ n, Ext (lvsR mem n)
  | 0 => Ext.pure_ []
  | n + 1 =>
    ⟨fun s hs => by
      rw [lvsR, if_neg (by rw [(ext_some _).stop s hs]; exact hs)]
      exact (ext_some _).stop s hs, fun l t ht => by
      rw [lvsR] at ht
      by_cases h1 : (someS mem ⟨l, 0⟩).2.t = 0
      · rw [if_pos h1] at ht
        have e := (ext_some mem).ext l t h1
        have e2 := rs_eta h1
        have ih := (ext_lvs mem n).ext (someS mem ⟨l, 0⟩).2.l t (by rw [← e2]; exact ht)
        rw [← e2] at ih
        rw [lvsR, lvsR, e, if_pos h1]
        dsimp only
        rw [if_pos rfl, ih]
      · rw [if_neg h1] at ht
        exact absurd ht h1⟩
theorem ext_parts : Ext partsS := (ext_num 4611686018427387904).bind_ (F := fun id s => (fun mem s => (fun n s => (fun lvs s => ((⟨id, mem, lvs, (someS mem s).1⟩ : Vi), (someS mem s).2)) (lvsR mem n s).1 (lvsR mem n s).2) (numS 24 s).1 (numS 24 s).2) (pidsS 24 s).1 (pidsS 24 s).2)
  fun id => (ext_pids 24).bind_ fun mem => (ext_num 24).bind_ fun n => (ext_lvs mem n).bind_ fun lvs => (ext_some mem).map_ fun ldr => (⟨id, mem, lvs, ldr⟩ : Vi)
theorem ext_view : Ext viewS := ext_parts.chk MayV noV
theorem ext_partsC : Ext partsC := ext_pid.bind_ (F := fun p s => (fun n s => (fun v s => ((⟨2, p, n, v, (bytS 200 s).1, noV⟩ : Cm), (bytS 200 s).2)) (numS 4611686018427387904 s).1 (numS 4611686018427387904 s).2) (numS 4611686018427387904 s).1 (numS 4611686018427387904 s).2)
  fun p => (ext_num _).bind_ fun n => (ext_num _).bind_ fun v => (ext_byt 200).map_ fun d => (⟨2, p, n, v, d, noV⟩ : Cm)
theorem ext_bare : Ext bareS := (ext_num 3).bind_ (F := fun k s => if k = 2 then partsC s else if k = 3 then (zC 3 (viewS s).1, (viewS s).2) else (zC (k : Nat) noV, s)) fun k => by
  by_cases h2 : k = 2
  · simp only [if_pos h2]; exact ext_partsC
  · by_cases h3 : k = 3
    · simp only [if_neg h2, if_pos h3]; exact ext_view.map_ (fun v => zC 3 v)
    · simp only [if_neg h2, if_neg h3]; exact Ext.pure_ _
theorem ext_cmd : Ext cmdS := ext_bare.chk MayC (zC 0 noV)
/-- A field is read, if there is one. -/
theorem ext_st {α : Type} {R : RS → α × RS} (h : Ext R) (c : Bool) (m : Ms) (f : α → Ms) : Ext (fun s => if c then (f (R s).1, (R s).2) else (m, s)) := by
  cases c
  · exact Ext.pure_ m
  · exact h.map_ f
theorem ext_getA (k : Nat) : Ext (getA k) :=
  (ext_st ext_pid ((tabM k).testBit 0) (kindM k) (fun p => { kindM k with who := p })).bind_ (F := fun m s => st6 (tabM k) (st5 (tabM k) (st4 (tabM k) (st3 (tabM k) (st2 (tabM k) (st1 (tabM k) (m, s))))))) fun m =>
  (ext_st (ext_num _) ((tabM k).testBit 1) m (fun p => { m with view := p })).bind_ (F := fun m s => st6 (tabM k) (st5 (tabM k) (st4 (tabM k) (st3 (tabM k) (st2 (tabM k) (m, s)))))) fun m =>
  (ext_st (ext_num _) ((tabM k).testBit 2) m (fun p => { m with slot := p })).bind_ (F := fun m s => st6 (tabM k) (st5 (tabM k) (st4 (tabM k) (st3 (tabM k) (m, s))))) fun m =>
  (ext_st ext_bal ((tabM k).testBit 3) m (fun p => { m with b := p })).bind_ (F := fun m s => st6 (tabM k) (st5 (tabM k) (st4 (tabM k) (m, s)))) fun m =>
  (ext_st (ext_num _) ((tabM k).testBit 4) m (fun p => { m with num := p })).bind_ (F := fun m s => st6 (tabM k) (st5 (tabM k) (m, s))) fun m =>
  (ext_st (ext_num _) ((tabM k).testBit 5) m (fun p => { m with hops := (p : Nat) })).bind_ (F := fun m s => st6 (tabM k) (m, s)) fun m =>
  ext_st ext_tru ((tabM k).testBit 6) m (fun p => { m with has := p })
theorem ext_getB (q : Nat) (m : Ms) : Ext (fun s => getB q (m, s)) :=
  (ext_st ext_bal (q.testBit 7) m (fun p => { m with a := p })).bind_ (F := fun m s => st10 q (st9 q (st8 q (m, s)))) fun m =>
  (ext_st ext_cmd (q.testBit 8) m (fun p => { m with c := p })).bind_ (F := fun m s => st10 q (st9 q (m, s))) fun m =>
  (ext_st ext_view (q.testBit 9) m (fun p => { m with v := p })).bind_ (F := fun m s => st10 q (m, s)) fun m =>
  ext_st (ext_byt 200) (q.testBit 10) m (fun p => { m with d := p })
theorem ext_two {A : RS → Ms × RS} {G : Nat → Ms × RS → Ms × RS} (k : Nat) (hA : Ext A) (hG : ∀ q m, Ext (fun s => G q (m, s))) : Ext (fun s => G (bitsM (k : Int) (A s).1.has) (A s)) :=
  hA.bind_ (F := fun m s => G (bitsM (k : Int) m.has) (m, s)) fun m => hG _ m
theorem ext_three {N : RS → Nat × RS} {A : Nat → RS → Ms × RS} {G : Nat → Ms × RS → Ms × RS} (hN : Ext N) (hA : ∀ k, Ext (A k)) (hG : ∀ q m, Ext (fun s => G q (m, s))) : Ext (fun s => G (bitsM ((N s).1 : Int) (A (N s).1 (N s).2).1.has) (A (N s).1 (N s).2)) :=
  hN.bind_ (F := fun (k : Nat) s => G (bitsM (k : Int) (A k s).1.has) (A k s)) fun (k : Nat) => ext_two k (hA k) hG
theorem getM_fun : getM = fun s => getB (bitsM ((numS 14 s).1 : Int) (getA (numS 14 s).1 (numS 14 s).2).1.has) (getA (numS 14 s).1 (numS 14 s).2) := by
  funext s
  unfold getM
  with_reducible rfl
theorem ext_getM : Ext getM := by
  rw [getM_fun]
  exact ext_three (N := numS 14) (A := getA) (G := getB) (ext_num 14) ext_getA ext_getB
/-- No beginning of a form is one. -/
theorem decM_cut {m : Ms} (h : MayM m) {n : Nat} (hn : n < (formM m).length) : (decM ((formM m).take n)).2 ≠ 0 := by
  intro h0
  have e1 := getM_front h []
  rw [List.append_nil] at e1
  by_cases hE : endF (getM ⟨(formM m).take n, 0⟩).2.l (getM ⟨(formM m).take n, 0⟩).2.t = 0
  · have ht : (getM ⟨(formM m).take n, 0⟩).2.t = 0 := by
      unfold endF at hE
      split at hE
      · next h => exact h
      · next h => exact absurd hE h
    have hl : (getM ⟨(formM m).take n, 0⟩).2.l = [] := by
      unfold endF at hE
      rw [if_pos ht] at hE
      split at hE
      · next h => exact List.eq_nil_of_length_eq_zero h
      · cases hE
    have e := ext_getM.ext ((formM m).take n) ((formM m).drop n) ht
    rw [List.take_append_drop, e1, hl, List.nil_append] at e
    have e3 : ([] : List UInt8) = (formM m).drop n := congrArg (fun x : Ms × RS => x.2.l) e
    have := congrArg List.length e3
    rw [List.length_drop] at this
    simp at this
    omega
  · rw [decM_err hE] at h0
    exact hE h0
end Go.Proofs.YtjmkecaljkcoiaaDoor
