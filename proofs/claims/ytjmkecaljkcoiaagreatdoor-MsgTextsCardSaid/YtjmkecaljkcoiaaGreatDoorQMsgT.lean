import Derived.Test.YtjmkecaljkcoiaaGreatDoorQCmd6
import Derived.Test.YtjmkecaljkcoiaaGreatDoorQCmdT
namespace Go.Proofs.YtjmkecaljkcoiaaGreatDoor
open Go.RowKit Go.Lib
set_option linter.unusedVariables false
set_option linter.unusedSimpArgs false
def wordL : Nat → List UInt8
  | 1 => [115, 117, 98, 109, 105, 116] | 2 => [99, 104, 111, 115, 101, 110] | 3 => [110, 101, 101, 100] | 4 => [112, 114, 101, 112, 97, 114, 101] | 5 => [112, 114, 111, 109, 105, 115, 101]
  | 6 => [97, 99, 99, 101, 112, 116] | 7 => [97, 99, 99, 101, 112, 116, 101, 100] | 8 => [110, 97, 99, 107] | 9 => [102, 108, 117, 115, 104] | 10 => [102, 108, 117, 115, 104, 101, 100]
  | 11 => [106, 111, 105, 110] | 12 => [119, 101, 108, 99, 111, 109, 101] | 13 => [108, 101, 97, 118, 101] | 14 => [101, 120, 112, 101, 108] | _ => []
def balT (b : Bl) : List UInt8 := decDigits b.r ++ (58 :: pidT b.p.i b.p.k)
def partT (m : Ms) : Nat → List UInt8
  | 0 => pidT m.who.i m.who.k
  | 1 => 118 :: decDigits m.view
  | 2 => 115 :: decDigits m.slot
  | 3 => 98 :: balT m.b
  | 4 => 110 :: decDigits m.num
  | 5 => 104 :: decDigits m.hops.toNat
  | 7 => 97 :: balT m.a
  | 8 => 91 :: (textL m.c ++ [93])
  | 9 => 91 :: (printL m.v ++ [93])
  | 10 => 120 :: hexL m.d
  | _ => []
def opT (m : Ms) (i : Nat) : List UInt8 := if hasF m.kind m.has i then 32 :: partT m i else []
def textM (m : Ms) : List UInt8 := wordL m.kind.toNat ++ (opT m 0 ++ (opT m 1 ++ (opT m 2 ++ (opT m 3 ++ (opT m 4 ++ (opT m 5 ++ (opT m 7 ++ (opT m 8 ++ (opT m 9 ++ opT m 10)))))))))
def Sp (l : List UInt8) : Prop := l = [] ∨ ∃ t, l = 32 :: t
theorem Sp.nil : Sp [] := .inl rfl
theorem Sp.noDig {l : List UInt8} (h : Sp l) : NoDig l := by
  rcases h with rfl | ⟨t, rfl⟩
  · exact NoDig.nil
  · exact noDig_32 t
theorem Sp.op (m : Ms) (i : Nat) {l : List UInt8} (h : Sp l) : Sp (opT m i ++ l) := by
  unfold opT
  split
  · exact .inr ⟨_, rfl⟩
  · exact h
theorem sp_cancel : ∀ (a b x y : List UInt8), (∀ c ∈ a, c ≠ 32) → (∀ c ∈ b, c ≠ 32) → Sp x → Sp y → a ++ x = b ++ y → a = b ∧ x = y
  | [], [], _, _, _, _, _, _, h => ⟨rfl, h⟩
  | [], d :: b, x, y, _, hb, hx, _, h => by
    rcases hx with rfl | ⟨t, rfl⟩
    · cases h
    · simp only [List.nil_append, List.cons_append, List.cons.injEq] at h
      exact absurd h.1.symm (hb d (by simp))
  | d :: a, [], x, y, ha, _, _, hy, h => by
    rcases hy with rfl | ⟨t, rfl⟩
    · cases h
    · simp only [List.nil_append, List.cons_append, List.cons.injEq] at h
      exact absurd h.1 (ha d (by simp))
  | d :: a, e :: b, x, y, ha, hb, hx, hy, h => by
    simp only [List.cons_append, List.cons.injEq] at h
    obtain ⟨h1, h2⟩ := sp_cancel a b x y (fun c hc => ha c (by simp [hc])) (fun c hc => hb c (by simp [hc])) hx hy h.2
    exact ⟨by rw [h.1, h1], h2⟩
theorem cut_93 : ∀ (a b x y : List UInt8), (∀ c ∈ a, c ≠ 93) → (∀ c ∈ b, c ≠ 93) → a ++ 93 :: x = b ++ 93 :: y → a = b ∧ x = y
  | [], [], _, _, _, _, h => ⟨rfl, by simpa using h⟩
  | [], d :: b, x, y, _, hb, h => by
    simp only [List.nil_append, List.cons_append, List.cons.injEq] at h
    exact absurd h.1.symm (hb d (by simp))
  | d :: a, [], x, y, ha, _, h => by
    simp only [List.nil_append, List.cons_append, List.cons.injEq] at h
    exact absurd h.1 (ha d (by simp))
  | d :: a, e :: b, x, y, ha, hb, h => by
    simp only [List.cons_append, List.cons.injEq] at h
    obtain ⟨h1, h2⟩ := cut_93 a b x y (fun c hc => ha c (by simp [hc])) (fun c hc => hb c (by simp [hc])) h.2
    exact ⟨by rw [h.1, h1], h2⟩
theorem no93_dec (n : Nat) : ∀ c ∈ decDigits n, c ≠ 93 := fun c hc e => by
  have := (dec_all n).1 c hc
  rw [e] at this
  exact absurd this (by unfold isDig; decide)
theorem no93_cons {l : List UInt8} {d : UInt8} (hd : d ≠ 93) (h : ∀ c ∈ l, c ≠ 93) : ∀ c ∈ d :: l, c ≠ 93 := fun c hc => by
  rcases List.mem_cons.1 hc with rfl | hc
  · exact hd
  · exact h c hc
theorem no93_app {l m : List UInt8} (h : ∀ c ∈ l, c ≠ 93) (h' : ∀ c ∈ m, c ≠ 93) : ∀ c ∈ l ++ m, c ≠ 93 := fun c hc => by
  rcases List.mem_append.1 hc with hc | hc
  · exact h c hc
  · exact h' c hc
theorem no93_nil : ∀ c ∈ ([] : List UInt8), c ≠ 93 := fun c hc => by cases hc
theorem no93_pid (i k : Nat) : ∀ c ∈ pidT i k, c ≠ 93 := by
  unfold pidT
  exact no93_app (no93_app (no93_dec i) (no93_cons (by decide) no93_nil)) (no93_dec k)
theorem hexD_93 : ∀ k, k < 16 → hexD k ≠ 93 := by decide
theorem no93_hex : ∀ l : List UInt8, ∀ c ∈ hexL l, c ≠ 93
  | [] => no93_nil
  | b :: t => no93_cons (hexD_93 _ (by have := b.toNat_lt; omega)) (no93_cons (hexD_93 _ (by omega)) (no93_hex t))
theorem no93_parts (v : Vi) : ∀ l : List Pr, ∀ c ∈ partsL v l, c ≠ 93
  | [] => no93_nil
  | p :: l => by
    show ∀ c ∈ 32 :: (partL v p ++ partsL v l), c ≠ 93
    refine no93_cons (by decide) (no93_app ?_ (no93_parts v l))
    unfold partL
    refine no93_app (no93_pid _ _) (no93_cons (by decide) (no93_app (no93_dec _) ?_))
    split
    · exact no93_cons (by decide) no93_nil
    · exact no93_nil
theorem no93_print (v : Vi) : ∀ c ∈ printL v, c ≠ 93 := no93_app (no93_dec _) (no93_parts v _)
theorem no93_text (y : Cm) : ∀ c ∈ textL y, c ≠ 93 := by
  unfold textL
  split
  · exact no93_app (by decide) (no93_app (no93_pid _ _) (no93_cons (by decide) (no93_app (no93_dec _) (no93_cons (by decide) (no93_app (no93_dec _) (no93_cons (by decide) (no93_cons (by decide) (no93_hex _))))))))
  · split
    · exact no93_app (by decide) (no93_print _)
    · decide
def eqF (m n : Ms) : Nat → Prop
  | 0 => m.who = n.who | 1 => m.view = n.view | 2 => m.slot = n.slot | 3 => m.b = n.b | 4 => m.num = n.num | 5 => m.hops = n.hops | 6 => m.has = n.has | 7 => m.a = n.a | 8 => m.c = n.c | 9 => m.v = n.v | _ => m.d = n.d
theorem zero_eqF {m n : Ms} {i : Nat} (hi : i < 11) (h : zeroF m i) (h' : zeroF n i) : eqF m n i := by
  have : i = 0 ∨ i = 1 ∨ i = 2 ∨ i = 3 ∨ i = 4 ∨ i = 5 ∨ i = 6 ∨ i = 7 ∨ i = 8 ∨ i = 9 ∨ i = 10 := by omega
  rcases this with rfl | rfl | rfl | rfl | rfl | rfl | rfl | rfl | rfl | rfl | rfl <;> exact h.trans h'.symm
theorem balT_cancel {a b : Bl} {x y : List UInt8} (hx : NoDig x) (hy : NoDig y) (h : balT a ++ x = balT b ++ y) : a = b ∧ x = y := by
  unfold balT at h
  rw [List.append_assoc, List.append_assoc] at h
  obtain ⟨h1, h2⟩ := dec_cancel (NoDig.cons (by unfold isDig; decide) _) (NoDig.cons (by unfold isDig; decide) _) h
  obtain ⟨h3, h4, h5⟩ := pidT_cancel hx hy (List.cons.inj h2).2
  exact ⟨Bl.ext h1 (Pr.ext h3 h4), h5⟩
theorem part_cancel {m n : Ms} {i : Nat} (hi : i < 10) (h6 : i ≠ 6) (hm : rightF m i) (hn : rightF n i) {x y : List UInt8} (hx : NoDig x) (hy : NoDig y) (h : partT m i ++ x = partT n i ++ y) : eqF m n i ∧ x = y := by
  have : i = 0 ∨ i = 1 ∨ i = 2 ∨ i = 3 ∨ i = 4 ∨ i = 5 ∨ i = 7 ∨ i = 8 ∨ i = 9 := by omega
  rcases this with rfl | rfl | rfl | rfl | rfl | rfl | rfl | rfl | rfl
  · obtain ⟨h1, h2, h3⟩ := pidT_cancel hx hy h
    exact ⟨Pr.ext h1 h2, h3⟩
  · exact dec_cancel hx hy (List.cons.inj h).2
  · exact dec_cancel hx hy (List.cons.inj h).2
  · exact balT_cancel hx hy (List.cons.inj h).2
  · exact dec_cancel hx hy (List.cons.inj h).2
  · obtain ⟨h1, h2⟩ := dec_cancel hx hy (List.cons.inj h).2
    refine ⟨?_, h2⟩
    have a1 : 0 ≤ m.hops ∧ m.hops ≤ 4 := hm
    have a2 : 0 ≤ n.hops ∧ n.hops ≤ 4 := hn
    show m.hops = n.hops
    omega
  · exact balT_cancel hx hy (List.cons.inj h).2
  · have h1 := (List.cons.inj h).2
    have h1 : (textL m.c ++ [93]) ++ x = (textL n.c ++ [93]) ++ y := h1
    rw [List.append_assoc, List.append_assoc] at h1
    obtain ⟨h2, h3⟩ := cut_93 _ _ _ _ (no93_text m.c) (no93_text n.c) h1
    exact ⟨textL_inj hm hn h2, h3⟩
  · have h1 := (List.cons.inj h).2
    have h1 : (printL m.v ++ [93]) ++ x = (printL n.v ++ [93]) ++ y := h1
    rw [List.append_assoc, List.append_assoc] at h1
    obtain ⟨h2, h3⟩ := cut_93 _ _ _ _ (no93_print m.v) (no93_print n.v) h1
    exact ⟨printL_inj hm hn h2, h3⟩
theorem op_cancel {m n : Ms} {i : Nat} (hi : i < 10) (h6 : i ≠ 6) (hm : MayM m) (hn : MayM n) (hf : hasF m.kind m.has i = hasF n.kind n.has i) {x y : List UInt8} (hx : Sp x) (hy : Sp y) (h : opT m i ++ x = opT n i ++ y) : eqF m n i ∧ x = y := by
  unfold opT at h
  rw [← hf] at h
  cases hb : hasF m.kind m.has i
  · rw [hb] at h
    exact ⟨zero_eqF (by omega) ((hm.each i (by omega)).2 hb) ((hn.each i (by omega)).2 (hf ▸ hb)), h⟩
  · rw [hb] at h
    exact part_cancel hi h6 ((hm.each i (by omega)).1 hb) ((hn.each i (by omega)).1 (hf ▸ hb)) hx.noDig hy.noDig (List.cons.inj h).2
theorem word_no32 : ∀ k, k < 15 → ∀ c ∈ wordL k, c ≠ 32 := by decide
theorem word_inj : ∀ k, k < 15 → ∀ j, j < 15 → 1 ≤ k → 1 ≤ j → wordL k = wordL j → k = j := by decide
theorem low_has (k : Int) (t u : Bool) {i : Nat} (hi : i < 7) : hasF k t i = hasF k u i := by
  unfold hasF bitsM
  by_cases h : k = 5
  · subst h
    have : i = 0 ∨ i = 1 ∨ i = 2 ∨ i = 3 ∨ i = 4 ∨ i = 5 ∨ i = 6 := by omega
    rcases this with rfl | rfl | rfl | rfl | rfl | rfl | rfl <;> cases t <;> cases u <;> decide
  · rw [if_neg (fun e => h e.1), if_neg (fun e => h e.1)]
theorem has_five {m : Ms} (h : MayM m) (hk : m.kind ≠ 5) : m.has = false := by
  cases ht : m.has
  · rfl
  · have e : hasF m.kind m.has 6 = false := by
      unfold hasF bitsM
      rw [if_neg (fun e => hk e.1)]
      have h14 := h.kind
      have : m.kind.toNat = 1 ∨ m.kind.toNat = 2 ∨ m.kind.toNat = 3 ∨ m.kind.toNat = 4 ∨ m.kind.toNat = 6 ∨ m.kind.toNat = 7 ∨ m.kind.toNat = 8 ∨ m.kind.toNat = 9 ∨ m.kind.toNat = 10 ∨ m.kind.toNat = 11 ∨ m.kind.toNat = 12 ∨ m.kind.toNat = 13 ∨ m.kind.toNat = 14 := by omega
      rcases this with e | e | e | e | e | e | e | e | e | e | e | e | e <;> rw [e] <;> decide
    have := (h.each 6 (by decide)).2 e
    rw [show zeroF m 6 = (m.has = false) from rfl, ht] at this
    cases this
theorem five_no {i : Nat} (hi : 7 ≤ i) (h2 : i < 11) : hasF 5 false i = false := by
  have : i = 7 ∨ i = 8 ∨ i = 9 ∨ i = 10 := by omega
  rcases this with rfl | rfl | rfl | rfl <;> decide
theorem textM_inj {m n : Ms} (hm : MayM m) (hn : MayM n) (h : textM m = textM n) : m = n := by
  have k1 := hm.kind
  have k2 := hn.kind
  unfold textM at h
  have s10 : ∀ q : Ms, Sp (opT q 10) := fun q => by have := Sp.op q 10 Sp.nil; rwa [List.append_nil] at this
  have s9 : ∀ q : Ms, Sp (opT q 9 ++ opT q 10) := fun q => Sp.op q 9 (s10 q)
  have s8 := fun q : Ms => Sp.op q 8 (s9 q)
  have s7 := fun q : Ms => Sp.op q 7 (s8 q)
  have s5 := fun q : Ms => Sp.op q 5 (s7 q)
  have s4 := fun q : Ms => Sp.op q 4 (s5 q)
  have s3 := fun q : Ms => Sp.op q 3 (s4 q)
  have s2 := fun q : Ms => Sp.op q 2 (s3 q)
  have s1 := fun q : Ms => Sp.op q 1 (s2 q)
  have s0 := fun q : Ms => Sp.op q 0 (s1 q)
  obtain ⟨hw, h⟩ := sp_cancel _ _ _ _ (word_no32 m.kind.toNat (by omega)) (word_no32 n.kind.toNat (by omega)) (s0 m) (s0 n) h
  have hkn := word_inj m.kind.toNat (by omega) n.kind.toNat (by omega) (by omega) (by omega) hw
  have hk : m.kind = n.kind := by omega
  have lo : ∀ i, i < 7 → hasF m.kind m.has i = hasF n.kind n.has i := fun i hi => by rw [hk]; exact low_has _ _ _ hi
  obtain ⟨e0, h⟩ := op_cancel (by decide) (by decide) hm hn (lo 0 (by decide)) (s1 m) (s1 n) h
  obtain ⟨e1, h⟩ := op_cancel (by decide) (by decide) hm hn (lo 1 (by decide)) (s2 m) (s2 n) h
  obtain ⟨e2, h⟩ := op_cancel (by decide) (by decide) hm hn (lo 2 (by decide)) (s3 m) (s3 n) h
  obtain ⟨e3, h⟩ := op_cancel (by decide) (by decide) hm hn (lo 3 (by decide)) (s4 m) (s4 n) h
  obtain ⟨e4, h⟩ := op_cancel (by decide) (by decide) hm hn (lo 4 (by decide)) (s5 m) (s5 n) h
  obtain ⟨e5, h⟩ := op_cancel (by decide) (by decide) hm hn (lo 5 (by decide)) (s7 m) (s7 n) h
  have e6 : m.has = n.has := by
    by_cases h5 : m.kind = 5
    · have h5' : n.kind = 5 := by rw [← hk]; exact h5
      have no : ∀ q : Ms, q.kind = 5 → q.has = false → opT q 7 ++ (opT q 8 ++ (opT q 9 ++ opT q 10)) = [] := fun q hq hh => by
        unfold opT
        rw [hq, hh, five_no (by decide) (by decide), five_no (by decide) (by decide), five_no (by decide) (by decide), five_no (by decide) (by decide)]
        rfl
      have yes : ∀ q : Ms, q.kind = 5 → q.has = true → opT q 7 ++ (opT q 8 ++ (opT q 9 ++ opT q 10)) ≠ [] := fun q hq hh => by
        have e : opT q 7 = 32 :: partT q 7 := by
          unfold opT
          rw [hq, hh]
          rfl
        rw [e]
        simp
      cases t1 : m.has <;> cases t2 : n.has
      · rfl
      · exact absurd (h.symm.trans (no m h5 t1)) (yes n h5' t2)
      · exact absurd (h.trans (no n h5' t2)) (yes m h5 t1)
      · rfl
    · rw [has_five hm h5, has_five hn (by rw [← hk]; exact h5)]
  have hi : ∀ i, hasF m.kind m.has i = hasF n.kind n.has i := fun i => by rw [hk, e6]
  obtain ⟨e7, h⟩ := op_cancel (by decide) (by decide) hm hn (hi 7) (s8 m) (s8 n) h
  obtain ⟨e8, h⟩ := op_cancel (by decide) (by decide) hm hn (hi 8) (s9 m) (s9 n) h
  obtain ⟨e9, h⟩ := op_cancel (by decide) (by decide) hm hn (hi 9) (s10 m) (s10 n) h
  have e10 : m.d = n.d := by
    unfold opT at h
    rw [← hi 10] at h
    cases hb : hasF m.kind m.has 10
    · exact ((hm.each 10 (by decide)).2 hb).trans ((hn.each 10 (by decide)).2 ((hi 10) ▸ hb)).symm
    · rw [hb] at h
      exact hexL_inj (List.cons.inj (List.cons.inj h).2).2
  obtain ⟨mk, mw, mv, ms, mn, mh, mb, ma, mt, mc, mx, md⟩ := m
  obtain ⟨nk, nw, nv, ns, nn, nh, nb, na, nt, nc, nx, nd⟩ := n
  simp only [eqF] at *
  subst hk e0 e1 e2 e3 e4 e5 e6 e7 e8 e9 e10
  rfl
def TxM (m : Ms) (l : List UInt8) : Prop := (MayM m ∧ l = textM m) ∨ (¬ MayM m ∧ l = [63])
theorem TxM.some_ (m : Ms) : ∃ l, TxM m l := by
  by_cases h : MayM m
  · exact ⟨_, .inl ⟨h, rfl⟩⟩
  · exact ⟨_, .inr ⟨h, rfl⟩⟩
theorem TxM.one {a b : Ms} {l m : List UInt8} (ha : TxM a l) (hb : TxM b m) (h : l = m) : l = [63] ∨ a = b := by
  rcases ha with ⟨h1, h2⟩ | ⟨_, h2⟩
  · rcases hb with ⟨g1, g2⟩ | ⟨_, g2⟩
    · exact .inr (textM_inj h1 g1 (by rw [← h2, ← g2, h]))
    · exact .inl (by rw [h, g2])
  · exact .inl h2
end Go.Proofs.YtjmkecaljkcoiaaGreatDoor
