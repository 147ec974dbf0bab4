import Derived.Test.YtjmkecaljkcoiaaGreatDoorQViewT
import Derived.Laws.BitsAllLaws
import Derived.Test.YtjmkecaljkcoiaaGreatDoorQOpenF
import Derived.Test.YtjmkecaljkcoiaaGreatDoorQOpenC
namespace Go.Proofs.YtjmkecaljkcoiaaGreatDoor
open Go.RowKit Go.Lib
set_option linter.unusedVariables false
def NoDig (l : List UInt8) : Prop := ∀ c t, l = c :: t → ¬ isDig c
theorem NoDig.nil : NoDig [] := fun c t h => by cases h
theorem NoDig.cons {c : UInt8} (h : ¬ isDig c) (t : List UInt8) : NoDig (c :: t) := fun d s e => by cases e; exact h
theorem dig_cancel : ∀ (a b x y : List UInt8), allDig a → allDig b → NoDig x → NoDig y → a ++ x = b ++ y → a = b ∧ x = y
  | [], [], x, y, _, _, _, _, h => ⟨rfl, h⟩
  | [], c :: b, x, y, _, hb, hx, _, h => absurd (hb c (by simp)) (hx c (b ++ y) h)
  | c :: a, [], x, y, ha, _, _, hy, h => absurd (ha c (by simp)) (hy c (a ++ x) h.symm)
  | c :: a, d :: b, x, y, ha, hb, hx, hy, h => by
    rw [List.cons_append, List.cons_append, List.cons.injEq] at h
    obtain ⟨h1, h2⟩ := dig_cancel a b x y (fun z hz => ha z (by simp [hz])) (fun z hz => hb z (by simp [hz])) hx hy h.2
    exact ⟨by rw [h.1, h1], h2⟩
theorem dec_cancel {m n : Nat} {x y : List UInt8} (hx : NoDig x) (hy : NoDig y) (h : decDigits m ++ x = decDigits n ++ y) : m = n ∧ x = y := by
  obtain ⟨h1, h2⟩ := dig_cancel _ _ _ _ (dec_all m).1 (dec_all n).1 hx hy h
  exact ⟨dec_inj h1, h2⟩
theorem noDig_32 (t : List UInt8) : NoDig (32 :: t) := NoDig.cons (by unfold isDig; decide) t
theorem noDig_42 (t : List UInt8) : NoDig (42 :: t) := NoDig.cons (by unfold isDig; decide) t
theorem noDig_46 (t : List UInt8) : NoDig (46 :: t) := NoDig.cons (by unfold isDig; decide) t
theorem noDig_47 (t : List UInt8) : NoDig (47 :: t) := NoDig.cons (by unfold isDig; decide) t
theorem pidT_cancel {i k j m : Nat} {x y : List UInt8} (hx : NoDig x) (hy : NoDig y) (h : pidT i k ++ x = pidT j m ++ y) : i = j ∧ k = m ∧ x = y := by
  unfold pidT at h
  simp only [List.append_assoc, List.cons_append, List.nil_append] at h
  obtain ⟨h1, h2⟩ := dec_cancel (noDig_46 _) (noDig_46 _) h
  rw [List.cons.injEq] at h2
  obtain ⟨h3, h4⟩ := dec_cancel hx hy h2.2
  exact ⟨h1, h3, h4⟩
theorem partsL_noDig (v : Vi) (l : List Pr) : NoDig (partsL v l) := by
  cases l
  · exact NoDig.nil
  · exact noDig_32 _
theorem parts_inj (u v : Vi) : ∀ (l m : List Pr), partsL u l = partsL v m → l = m ∧ ∀ p ∈ l, lfX u.lvs p = lfX v.lvs p ∧ (p ∈ u.ldr ↔ p ∈ v.ldr)
  | [], [], _ => ⟨rfl, fun p hp => by simp at hp⟩
  | [], q :: m, h => by simp [partsL] at h
  | p :: l, [], h => by simp [partsL] at h
  | p :: l, q :: m, h => by
    rw [partsL, partsL, List.cons.injEq] at h
    have h := h.2
    unfold partL at h
    simp only [List.append_assoc, List.cons_append] at h
    obtain ⟨h1, h2, h3⟩ := pidT_cancel (noDig_47 _) (noDig_47 _) h
    have hpq : p = q := Pr.ext h1 h2
    subst hpq
    rw [List.cons.injEq] at h3
    have h3 := h3.2
    have n1 : NoDig ((if p ∈ u.ldr then [42] else []) ++ partsL u l) := by
      split
      · exact noDig_42 _
      · exact partsL_noDig u l
    have n2 : NoDig ((if p ∈ v.ldr then [42] else []) ++ partsL v m) := by
      split
      · exact noDig_42 _
      · exact partsL_noDig v m
    obtain ⟨h4, h5⟩ := dec_cancel n1 n2 h3
    have h6 : (p ∈ u.ldr ↔ p ∈ v.ldr) ∧ partsL u l = partsL v m := by
      by_cases a : p ∈ u.ldr <;> by_cases b : p ∈ v.ldr
      · rw [if_pos a, if_pos b] at h5; exact ⟨⟨fun _ => b, fun _ => a⟩, by simpa using h5⟩
      · rw [if_pos a, if_neg b] at h5
        cases m
        · simp [partsL] at h5
        · simp [partsL] at h5
      · rw [if_neg a, if_pos b] at h5
        cases l
        · simp [partsL] at h5
        · simp [partsL] at h5
      · rw [if_neg a, if_neg b] at h5; exact ⟨⟨fun e => absurd e a, fun e => absurd e b⟩, by simpa using h5⟩
    obtain ⟨h7, h8⟩ := parts_inj u v l m h6.2
    refine ⟨by rw [h7], fun x hx => ?_⟩
    rcases List.mem_cons.1 hx with rfl | hx
    · exact ⟨h4, h6.1⟩
    · exact h8 x hx
theorem rise_ext {mem : List Pr} : ∀ (l m : List Pr), RiseP mem l → RiseP mem m → (∀ p, p ∈ l ↔ p ∈ m) → l = m
  | [], [], _, _, _ => rfl
  | [], q :: m, _, _, h => by have := (h q).2 (by simp); simp at this
  | p :: l, [], _, _, h => by have := (h p).1 (by simp); simp at this
  | p :: l, q :: m, hl, hm, h => by
    have c1 := List.pairwise_cons.1 hl.2
    have c2 := List.pairwise_cons.1 hm.2
    have e : p = q := by
      rcases List.mem_cons.1 ((h p).1 (by simp)) with e | h1
      · exact e
      · rcases List.mem_cons.1 ((h q).2 (by simp)) with e | h2
        · exact e.symm
        · have a := c1.1 q h2
          have b := c2.1 p h1
          omega
    subst e
    have n1 : p ∉ l := fun hp => by have := c1.1 p hp; omega
    have n2 : p ∉ m := fun hp => by have := c2.1 p hp; omega
    rw [rise_ext l m ⟨fun x hx => hl.1 x (by simp [hx]), c1.2⟩ ⟨fun x hx => hm.1 x (by simp [hx]), c2.2⟩ fun x => ⟨fun hx => ?_, fun hx => ?_⟩]
    · rcases List.mem_cons.1 ((h x).1 (by simp [hx])) with e | e
      · subst e; exact absurd hx n1
      · exact e
    · rcases List.mem_cons.1 ((h x).2 (by simp [hx])) with e | e
      · subst e; exact absurd hx n2
      · exact e
theorem lfX_iff {mem : List Pr} {lvs : List (List Pr)} (h : LeavesP mem lvs) {p : Pr} (hp : p ∈ mem) {j : Nat} (hj : j < lvs.length) : lfX lvs p = j ↔ p ∈ lvs[j] := by
  constructor
  · intro e
    obtain ⟨h1, h2⟩ := lfX_lt lvs p (h.has hp)
    subst e
    exact h2
  · intro e
    have h1 := lfX_new (lvs.take j) lvs[j] (lvs.drop (j + 1)) p (fun x hx hpx => ?_) e
    · rw [← List.drop_eq_getElem_cons hj, List.take_append_drop] at h1
      rw [h1, List.length_take]
      omega
    · have h2 := h.once p hp
      have h3 : lvs.flatten = (lvs.take j).flatten ++ (lvs[j] ++ (lvs.drop (j + 1)).flatten) := by
        conv => lhs; rw [← List.take_append_drop j lvs, List.flatten_append, List.drop_eq_getElem_cons hj, List.flatten_cons]
      rw [h3, List.count_append, List.count_append] at h2
      have h4 : 0 < (lvs.take j).flatten.count p := List.count_pos_iff.2 (List.mem_flatten.2 ⟨x, hx, hpx⟩)
      have h5 : 0 < lvs[j].count p := List.count_pos_iff.2 e
      omega
theorem leaves_le {mem : List Pr} {a b : List (List Pr)} (ha : LeavesP mem a) (hb : LeavesP mem b) (h : ∀ p ∈ mem, lfX a p = lfX b p) : a.length ≤ b.length := by
  rcases Nat.lt_or_ge b.length a.length with hlt | hge
  · have hne := (ha.each _ (List.getElem_mem hlt)).1
    obtain ⟨p, hp⟩ := List.exists_mem_of_ne_nil _ hne
    have hm := (ha.each _ (List.getElem_mem hlt)).2.1 p hp
    have e1 := (lfX_iff ha hm hlt).2 hp
    obtain ⟨h1, _⟩ := lfX_lt b p (hb.has hm)
    rw [← h p hm, e1] at h1
    omega
  · exact hge
theorem leaves_ext {mem : List Pr} {a b : List (List Pr)} (ha : LeavesP mem a) (hb : LeavesP mem b) (h : ∀ p ∈ mem, lfX a p = lfX b p) : a = b := by
  have hl : a.length = b.length := Nat.le_antisymm (leaves_le ha hb h) (leaves_le hb ha fun p hp => (h p hp).symm)
  refine List.ext_getElem hl fun j h1 h2 => rise_ext _ _ (ha.each _ (List.getElem_mem h1)).2 (hb.each _ (List.getElem_mem h2)).2 fun p => ⟨fun hp => ?_, fun hp => ?_⟩
  · have hm := (ha.each _ (List.getElem_mem h1)).2.1 p hp
    exact (lfX_iff hb hm h2).1 (by rw [← h p hm]; exact (lfX_iff ha hm h1).2 hp)
  · have hm := (hb.each _ (List.getElem_mem h2)).2.1 p hp
    exact (lfX_iff ha hm h1).1 (by rw [h p hm]; exact (lfX_iff hb hm h2).2 hp)
theorem printL_inj {u v : Vi} (hu : MayV u) (hv : MayV v) (h : printL u = printL v) : u = v := by
  unfold printL at h
  obtain ⟨h1, h2⟩ := dec_cancel (partsL_noDig u _) (partsL_noDig v _) h
  obtain ⟨h3, h4⟩ := parts_inj u v _ _ h2
  have hL := hu.lvs
  rw [h3] at hL h4
  have h5 := leaves_ext hL hv.lvs fun p hp => (h4 p hp).1
  have hR := hu.ldr
  rw [h3] at hR
  have h6 := rise_ext u.ldr v.ldr hR hv.ldr fun p => ⟨fun hp => (h4 p (hR.1 p hp)).2.1 hp, fun hp => (h4 p (hv.ldr.1 p hp)).2.2 hp⟩
  cases u
  cases v
  simp only at h1 h3 h5 h6
  subst h1 h3 h5 h6
  rfl
end Go.Proofs.YtjmkecaljkcoiaaGreatDoor
namespace Go.Proofs.YtjmkecaljkcoiaaGreatDoor
open Go.RowKit
def hexD (k : Nat) : UInt8 := if k < 10 then UInt8.ofNat (48 + k) else UInt8.ofNat (87 + k)
def digV (c : UInt8) : Option Nat := if 48 ≤ c.toNat ∧ c.toNat ≤ 57 then some (c.toNat - 48) else if 97 ≤ c.toNat ∧ c.toNat ≤ 102 then some (c.toNat - 87) else none
theorem hexD_toNat (k : Nat) (h : k < 16) : (hexD k).toNat = if k < 10 then 48 + k else 87 + k := by
  unfold hexD; split <;> simp <;> omega
theorem digV_hexD (k : Nat) (h : k < 16) : digV (hexD k) = some k := by
  have e := hexD_toNat k h
  unfold digV
  by_cases h10 : k < 10
  · rw [if_pos h10] at e; rw [e, if_pos (by omega)]; congr 1; omega
  · rw [if_neg h10] at e; rw [e, if_neg (by omega), if_pos (by omega)]; congr 1; omega
def hexL : List UInt8 → List UInt8
  | [] => []
  | b :: t => hexD (b.toNat / 16) :: hexD (b.toNat % 16) :: hexL t
theorem hexL_append (p q : List UInt8) : hexL (p ++ q) = hexL p ++ hexL q := by
  induction p with
  | nil => rfl
  | cons b t ih => simp [hexL, ih]
theorem hexL_snoc (p : List UInt8) (b : UInt8) : hexL (p ++ [b]) = hexL p ++ [hexD (b.toNat / 16), hexD (b.toNat % 16)] := hexL_append p [b]
theorem hexL_len (p : List UInt8) : (hexL p).length = 2 * p.length := by
  induction p with
  | nil => rfl
  | cons b t ih => simp [hexL, ih]; omega
def unhexL : List UInt8 → Option (List UInt8)
  | [] => some []
  | [_] => none
  | a :: b :: t =>
    match digV a, digV b, unhexL t with
    | some x, some y, some r => some (UInt8.ofNat (x * 16 + y) :: r)
    | _, _, _ => none
theorem unhexL_cons (a b : UInt8) (t : List UInt8) : unhexL (a :: b :: t) = (match digV a, digV b, unhexL t with
    | some x, some y, some r => some (UInt8.ofNat (x * 16 + y) :: r)
    | _, _, _ => none) := by rw [unhexL]
theorem unhex_hex (l : List UInt8) : unhexL (hexL l) = some l := by
  induction l with
  | nil => rfl
  | cons b t ih =>
    have hb := b.toNat_lt
    rw [hexL, unhexL_cons, ih, digV_hexD _ (by omega), digV_hexD _ (by omega)]
    simp only [Option.some.injEq, List.cons.injEq, and_true]
    rw [show b.toNat / 16 * 16 + b.toNat % 16 = b.toNat from by omega]
    simp
theorem unhex_append (k : Nat) : ∀ p q : List UInt8, p.length = 2 * k → unhexL (p ++ q) = match unhexL p, unhexL q with | some r, some s => some (r ++ s) | _, _ => none := by
  induction k with
  | zero =>
    intro p q h
    obtain rfl := List.eq_nil_of_length_eq_zero h
    simp only [List.nil_append, unhexL]
    cases unhexL q <;> rfl
  | succ k ih =>
    intro p q h
    match p, h with
    | a :: b :: t, h =>
      have ht : t.length = 2 * k := by simp at h; omega
      rw [List.cons_append, List.cons_append, unhexL_cons, unhexL_cons, ih t q ht]
      cases digV a <;> cases digV b <;> cases unhexL t <;> cases unhexL q <;> simp
theorem unhex_len (k : Nat) : ∀ p r : List UInt8, p.length = 2 * k → unhexL p = some r → r.length = k := by
  induction k with
  | zero =>
    intro p r h e
    obtain rfl := List.eq_nil_of_length_eq_zero h
    simp [unhexL] at e; subst e; rfl
  | succ k ih =>
    intro p r h e
    match p, h with
    | a :: b :: t, h =>
      rw [unhexL_cons] at e
      cases ha : digV a <;> cases hb : digV b <;> cases ht : unhexL t <;> rw [ha, hb, ht] at e <;> simp at e
      rename_i x y s
      subst e
      have := ih t s (by simp at h; omega) ht
      simp [this]
structure UnInv (s : List UInt8) (j : Nat) (r : List UInt8) : Prop where
  part : unhexL (s.take (2 * j)) = some r
  upto : 2 * j ≤ s.length
theorem UnInv.start (s : List UInt8) : UnInv s 0 [] := ⟨by simp [unhexL], by omega⟩
section
variable {s r : List UInt8} {j : Nat}
theorem UnInv.len (h : UnInv s j r) : r.length = j := unhex_len j _ _ (by have := h.upto; simp; omega) h.part
theorem take_two (h : 2 * j + 1 < s.length) : s.take (2 * (j + 1)) = s.take (2 * j) ++ [s[2 * j], s[2 * j + 1]] := by
  rw [show 2 * (j + 1) = 2 * j + 1 + 1 from by omega, List.take_succ_eq_append_getElem h, List.take_succ_eq_append_getElem (by omega : 2 * j < s.length), List.append_assoc]
  rfl
theorem UnInv.step (h : UnInv s j r) (hj : 2 * j + 1 < s.length) {x y : Nat} (hx : digV s[2 * j] = some x) (hy : digV s[2 * j + 1] = some y) : UnInv s (j + 1) (r ++ [UInt8.ofNat (x * 16 + y)]) := by
  refine ⟨?_, by omega⟩
  rw [take_two hj, unhex_append j _ _ (by simp; omega), h.part, unhexL_cons, hx, hy]
  simp [unhexL]
theorem UnInv.bad (h : UnInv s j r) (hj : 2 * j + 1 < s.length) (hb : digV s[2 * j] = none ∨ digV s[2 * j + 1] = none) : unhexL s = none := by
  have e : s = s.take (2 * j) ++ (s[2 * j] :: s[2 * j + 1] :: s.drop (2 * j + 2)) := by
    rw [← List.drop_eq_getElem_cons hj, ← List.drop_eq_getElem_cons (by omega : 2 * j < s.length), List.take_append_drop]
  rw [e, unhex_append j _ _ (by simp; omega), h.part, unhexL_cons]
  rcases hb with hb | hb
  · rw [hb]
  · rw [hb]; cases digV s[2 * j] <;> rfl
theorem UnInv.done (h : UnInv s j r) (hj : s.length = 2 * j) : unhexL s = some r := by
  have := h.part
  rwa [List.take_of_length_le (by omega)] at this
end
end Go.Proofs.YtjmkecaljkcoiaaGreatDoor
namespace Go.Proofs.YtjmkecaljkcoiaaGreatDoor
open Go.RowKit Go.Lib
set_option linter.unusedVariables false
def textL (c : Cm) : List UInt8 :=
  if c.kind = 2 then [115, 101, 110, 100, 32] ++ (pidT c.p.i c.p.k ++ (32 :: (decDigits c.num ++ (32 :: (decDigits c.vn ++ (32 :: 120 :: hexL c.d))))))
  else if c.kind = 3 then [118, 105, 101, 119, 32] ++ printL c.v else [110, 111, 112]
theorem hexL_inj {a b : List UInt8} (h : hexL a = hexL b) : a = b := by
  have h1 := unhex_hex a
  rw [h, unhex_hex b] at h1
  exact (Option.some.inj h1).symm
theorem textL_inj {a b : Cm} (ha : MayC a) (hb : MayC b) (h : textL a = textL b) : a = b := by
  unfold textL at h
  rcases ha.but with ⟨h0, h1⟩ | ⟨h0, h1, h2, h3, h4⟩ | ⟨h0, h1, h2⟩
  · rcases hb.but with ⟨g0, g1⟩ | ⟨g0, g1, g2, g3, g4⟩ | ⟨g0, g1, g2⟩
    · rw [h1, g1]
    · rw [h0, g0] at h; simp at h
    · rw [h0, g0] at h; simp at h
  · rcases hb.but with ⟨g0, g1⟩ | ⟨g0, g1, g2, g3, g4⟩ | ⟨g0, g1, g2⟩
    · rw [h0, g0] at h; simp at h
    · rw [if_pos h0, if_pos g0] at h
      have h := List.append_cancel_left h
      obtain ⟨e1, e2, h⟩ := pidT_cancel (noDig_32 _) (noDig_32 _) h
      rw [List.cons.injEq] at h
      obtain ⟨e3, h⟩ := dec_cancel (noDig_32 _) (noDig_32 _) h.2
      rw [List.cons.injEq] at h
      obtain ⟨e4, h⟩ := dec_cancel (noDig_32 _) (noDig_32 _) h.2
      rw [List.cons.injEq, List.cons.injEq] at h
      have e5 := hexL_inj h.2.2
      exact Cm.ext' (by rw [h0, g0]) (Pr.ext e1 e2) e3 e4 e5 (by rw [h4, g4])
    · rw [h0, g0] at h; simp at h
  · rcases hb.but with ⟨g0, g1⟩ | ⟨g0, g1, g2, g3, g4⟩ | ⟨g0, g1, g2⟩
    · rw [h0, g0] at h; simp at h
    · rw [h0, g0] at h; simp at h
    · rw [h0, g0] at h
      simp only [show ¬ (3 : Int) = 2 by decide, if_false, if_true] at h
      have h := printL_inj h1 g1 (List.append_cancel_left h)
      rw [h2, g2, h]
def TextC (c : Cm) (l : List UInt8) : Prop := (MayC c ∧ l = textL c) ∨ (¬ MayC c ∧ l = [63])
theorem TextC.some_ (c : Cm) : ∃ l, TextC c l := by
  by_cases h : MayC c
  · exact ⟨_, .inl ⟨h, rfl⟩⟩
  · exact ⟨_, .inr ⟨h, rfl⟩⟩
theorem TextC.one {a b : Cm} {l m : List UInt8} (ha : TextC a l) (hb : TextC b m) (h : l = m) : l = [63] ∨ a = b := by
  rcases ha with ⟨h1, h2⟩ | ⟨_, h2⟩
  · rcases hb with ⟨g1, g2⟩ | ⟨_, g2⟩
    · exact .inr (textL_inj h1 g1 (by rw [← h2, ← g2, h]))
    · exact .inl (by rw [h, g2])
  · exact .inl h2
end Go.Proofs.YtjmkecaljkcoiaaGreatDoor
