import Derived.Test.YtjmkecaljkcoiaaGreatDoorQSortM
import Derived.Test.YtjmkecaljkcoiaaGreatDoorQMaskM
namespace Go.Proofs.YtjmkecaljkcoiaaGreatDoor
set_option linter.unusedVariables false
def plc : List Pr → Pr → Nat
  | [], _ => 0
  | q :: r, p => if q = p then 0 else plc r p + 1
theorem plc_lt {l : List Pr} {p : Pr} (h : p ∈ l) : plc l p < l.length := by
  induction l with
  | nil => simp at h
  | cons q r ih =>
    unfold plc
    by_cases e : q = p
    · rw [if_pos e]; simp
    · rw [if_neg e, List.length_cons]
      have := ih ((List.mem_cons.1 h).resolve_left (fun e' => e e'.symm))
      omega
theorem plc_at {l : List Pr} {p : Pr} (h : p ∈ l) : l[plc l p]? = some p := by
  induction l with
  | nil => simp at h
  | cons q r ih =>
    unfold plc
    by_cases e : q = p
    · rw [if_pos e]; simp [e]
    · rw [if_neg e, List.getElem?_cons_succ]
      exact ih ((List.mem_cons.1 h).resolve_left (fun e' => e e'.symm))
theorem plc_inj {l : List Pr} {p q : Pr} (h : p ∈ l) (h' : q ∈ l) (e : plc l p = plc l q) : p = q := by
  have h1 := plc_at h
  have h2 := plc_at h'
  rw [e, h2] at h1
  injection h1 with h1
  exact h1.symm
theorem plc_append {l m : List Pr} {p : Pr} (h : p ∈ l) : plc (l ++ m) p = plc l p := by
  induction l with
  | nil => simp at h
  | cons q r ih =>
    rw [List.cons_append, plc, plc]
    by_cases e : q = p
    · rw [if_pos e, if_pos e]
    · rw [if_neg e, if_neg e, ih ((List.mem_cons.1 h).resolve_left (fun e' => e e'.symm))]
theorem plc_new {l : List Pr} {p : Pr} (h : p ∉ l) (m : List Pr) : plc (l ++ p :: m) p = l.length := by
  induction l with
  | nil => simp [plc]
  | cons q r ih =>
    rw [List.cons_append, plc, if_neg (fun e => h (by simp [e])), ih (fun e => h (by simp [e]))]
    simp
theorem plc_take {l : List Pr} {k : Nat} {p : Pr} (h : p ∈ l.take k) : plc (l.take k) p = plc l p := by
  have := plc_append (m := l.drop k) h
  rw [List.take_append_drop] at this
  exact this.symm
theorem plc_first {l : List Pr} {k : Nat} (hk : k < l.length) (h : l[k] ∉ l.take k) : plc l l[k] = k := by
  have e : l = l.take k ++ l[k] :: l.drop (k + 1) := by rw [← List.drop_eq_getElem_cons hk, List.take_append_drop]
  have := plc_new h (l.drop (k + 1))
  rw [← e] at this
  rw [this, List.length_take]; omega
theorem plc_nodup {l : List Pr} {k : Nat} (hn : l.Nodup) (hk : k < l.length) : plc l l[k] = k := by
  refine plc_first hk fun h => ?_
  obtain ⟨j, hj, e⟩ := List.mem_take_iff_getElem.1 h
  have := (List.getElem_inj hn).1 e
  omega
def atI (l : List Pr) (p : Pr) : Int := if p ∈ l then (plc l p : Int) else -1
theorem atI_in {l : List Pr} {p : Pr} (h : p ∈ l) : atI l p = (plc l p : Int) := if_pos h
theorem atI_no {l : List Pr} {p : Pr} (h : p ∉ l) : atI l p = -1 := if_neg h
theorem atI_lt (l : List Pr) (p : Pr) : -1 ≤ atI l p ∧ atI l p < l.length := by
  by_cases h : p ∈ l
  · rw [atI_in h]; have := plc_lt h; omega
  · rw [atI_no h]; omega
theorem atI_pos (l : List Pr) (p : Pr) : 0 ≤ atI l p ↔ p ∈ l := by
  by_cases h : p ∈ l
  · rw [atI_in h]; simp [h]
  · rw [atI_no h]; simp [h]
def RiseP (mem l : List Pr) : Prop := (∀ p ∈ l, p ∈ mem) ∧ l.Pairwise fun p q => plc mem p < plc mem q
theorem riseP_nil (mem : List Pr) : RiseP mem [] := ⟨fun p h => by simp at h, List.Pairwise.nil⟩
theorem riseP_snoc (mem l : List Pr) (q : Pr) : RiseP mem (l ++ [q]) ↔ RiseP mem l ∧ q ∈ mem ∧ ∀ p ∈ l, plc mem p < plc mem q := by
  unfold RiseP
  rw [List.pairwise_append]
  constructor
  · rintro ⟨h1, h2, _, h3⟩
    exact ⟨⟨fun p hp => h1 p (by simp [hp]), h2⟩, h1 q (by simp), fun p hp => h3 p hp q (by simp)⟩
  · rintro ⟨⟨h1, h2⟩, h3, h4⟩
    refine ⟨fun p hp => ?_, h2, List.pairwise_singleton _ _, fun p hp q' hq' => ?_⟩
    · rcases List.mem_append.1 hp with h | h
      · exact h1 p h
      · rw [List.mem_singleton] at h; rw [h]; exact h3
    · rw [List.mem_singleton] at hq'; rw [hq']; exact h4 p hp
theorem RiseP.nodup {mem l : List Pr} (h : RiseP mem l) : l.Nodup := h.2.imp fun {a b} hab e => by subst e; omega
theorem RiseP.take {mem l : List Pr} (h : RiseP mem l) (k : Nat) : RiseP mem (l.take k) := ⟨fun p hp => h.1 p (List.mem_of_mem_take hp), h.2.sublist (List.take_sublist _ _)⟩
theorem rise_len_aux : ∀ (l : List Nat) (lo n : Nat), (∀ x ∈ l, lo ≤ x ∧ x < n) → l.Pairwise (· < ·) → l.length ≤ n - lo
  | [], _, _, _, _ => by simp
  | x :: r, lo, n, h, hp => by
    rw [List.pairwise_cons] at hp
    have h0 := h x (by simp)
    have := rise_len_aux r (x + 1) n (fun y hy => ⟨hp.1 y hy, (h y (by simp [hy])).2⟩) hp.2
    rw [List.length_cons]; omega
theorem RiseP.len {mem l : List Pr} (h : RiseP mem l) : l.length ≤ mem.length := by
  have := rise_len_aux (l.map (plc mem)) 0 mem.length (fun x hx => by
    obtain ⟨p, hp, rfl⟩ := List.mem_map.1 hx
    exact ⟨Nat.zero_le _, plc_lt (h.1 p hp)⟩) (List.pairwise_map.2 h.2)
  simpa using this
def lastI (mem : List Pr) (l : List Pr) : Int := match l.getLast? with | none => -1 | some p => (plc mem p : Int)
theorem lastI_nil (mem : List Pr) : lastI mem [] = -1 := rfl
theorem lastI_snoc (mem l : List Pr) (p : Pr) : lastI mem (l ++ [p]) = (plc mem p : Int) := by unfold lastI; rw [List.getLast?_append]; rfl
theorem lastI_take {mem l : List Pr} {k : Nat} (hk : k < l.length) : lastI mem (l.take (k + 1)) = (plc mem l[k] : Int) := by
  rw [List.take_succ_eq_append_getElem hk, lastI_snoc]
theorem lastI_ge {mem l : List Pr} (h : RiseP mem l) : -1 ≤ lastI mem l ∧ ∀ p ∈ l, (plc mem p : Int) ≤ lastI mem l := by
  rcases List.eq_nil_or_concat l with rfl | ⟨m, q, rfl⟩
  · exact ⟨by simp [lastI_nil], fun p hp => by simp at hp⟩
  · rw [List.concat_eq_append] at h ⊢
    rw [lastI_snoc]
    have := ((riseP_snoc mem m q).1 h).2.2
    refine ⟨by omega, fun p hp => ?_⟩
    rcases List.mem_append.1 hp with h' | h'
    · have := this p h'; omega
    · rw [List.mem_singleton] at h'; rw [h']; exact Int.le_refl _
def RiseTo (mem l : List Pr) (k : Nat) : Prop := RiseP mem (l.take k)
theorem RiseTo.start (mem l : List Pr) : RiseTo mem l 0 := by unfold RiseTo; rw [List.take_zero]; exact riseP_nil mem
theorem RiseTo.step {mem l : List Pr} {k : Nat} (h : RiseTo mem l k) (hk : k < l.length) (hm : l[k] ∈ mem) (hl : lastI mem (l.take k) < (plc mem l[k] : Int)) : RiseTo mem l (k + 1) := by
  unfold RiseTo at *
  rw [List.take_succ_eq_append_getElem hk, riseP_snoc]
  exact ⟨h, hm, fun p hp => by have := (lastI_ge h).2 p hp; omega⟩
theorem RiseTo.gone {mem l : List Pr} {k : Nat} (hk : k < l.length) (hm : l[k] ∉ mem) : ¬ RiseP mem l := fun h => hm (h.1 _ (List.getElem_mem hk))
theorem RiseTo.low {mem l : List Pr} {k : Nat} (hk : k < l.length) (hl : (plc mem l[k] : Int) ≤ lastI mem (l.take k)) : ¬ RiseP mem l := by
  intro h
  have h1 := h.take (k + 1)
  rw [List.take_succ_eq_append_getElem hk, riseP_snoc] at h1
  rcases List.eq_nil_or_concat (l.take k) with e | ⟨m, q, e⟩
  · rw [e, lastI_nil] at hl; omega
  · rw [List.concat_eq_append] at e
    rw [e, lastI_snoc] at hl
    have := h1.2.2 q (by rw [e]; simp)
    omega
theorem RiseTo.done {mem l : List Pr} {k : Nat} (h : RiseTo mem l k) (hk : l.length ≤ k) : RiseP mem l := by
  unfold RiseTo at h
  rwa [List.take_of_length_le hk] at h
structure MayMem (mem : List Pr) : Prop where
  one : 1 ≤ mem.length
  most : mem.length ≤ 24
  each : ∀ p ∈ mem, p.i < 16 ∧ 0 < p.k
  ids : (mem.map Pr.i).Nodup
theorem nodup_map {l : List Pr} (h : (l.map Pr.i).Nodup) : l.Nodup := (List.pairwise_map.1 h).imp fun {a b} hab e => hab (by rw [e])
theorem MayMem.nodup {mem : List Pr} (h : MayMem mem) : mem.Nodup := nodup_map h.ids
def firstsP (lvs : List (List Pr)) : List Pr := lvs.map fun l => l.headD default
theorem firstsP_snoc (lvs : List (List Pr)) (l : List Pr) : firstsP (lvs ++ [l]) = firstsP lvs ++ [l.headD default] := by simp [firstsP]
theorem firstsP_len (lvs : List (List Pr)) : (firstsP lvs).length = lvs.length := by simp [firstsP]
structure LeavesP (mem : List Pr) (lvs : List (List Pr)) : Prop where
  each : ∀ l ∈ lvs, l ≠ [] ∧ RiseP mem l
  once : ∀ p ∈ mem, lvs.flatten.count p = 1
  firsts : RiseP mem (firstsP lvs)
structure Vi where
  id : Nat
  mem : List Pr
  lvs : List (List Pr)
  ldr : List Pr
structure MayV (v : Vi) : Prop where
  lo : 1 ≤ v.id
  hi : v.id ≤ 4611686018427387904
  mem : MayMem v.mem
  lvs : LeavesP v.mem v.lvs
  one : v.ldr ≠ []
  ldr : RiseP v.mem v.ldr
theorem cnt_mem_cons (x : Nat) (L : List Nat) (n : Nat) (hx : x < n) : cnt (fun r => decide (r ∈ x :: L)) n = cnt (fun r => decide (r ∈ L)) n + (if x ∈ L then 0 else 1) := by
  induction n with
  | zero => omega
  | succ n ih =>
    by_cases e : x = n
    · subst e
      have e1 : cnt (fun r => decide (r ∈ x :: L)) x = cnt (fun r => decide (r ∈ L)) x := cnt_congr fun i hi => by
        have : i ≠ x := by omega
        simp [this]
      rw [cnt_yes (by simp), e1]
      by_cases h : x ∈ L
      · rw [cnt_yes (by simpa using h), if_pos h]
      · rw [cnt_no (by simpa using h), if_neg h]
    · have hlt : x < n := by omega
      have hn : n ≠ x := fun e' => e e'.symm
      by_cases h : n ∈ L
      · rw [cnt_yes (by simp [h]), cnt_yes (by simpa using h), ih hlt]; omega
      · rw [cnt_no (by simp [h, hn]), cnt_no (by simpa using h), ih hlt]
theorem cnt_mem (L : List Nat) (n : Nat) (h : ∀ x ∈ L, x < n) : cnt (fun r => decide (r ∈ L)) n ≤ L.length ∧ (cnt (fun r => decide (r ∈ L)) n = L.length ↔ L.Nodup) := by
  induction L with
  | nil => exact ⟨by rw [cnt_none (fun i _ => by simp)]; simp, by rw [cnt_none (fun i _ => by simp)]; simp⟩
  | cons x L ih =>
    obtain ⟨i1, i2⟩ := ih fun y hy => h y (by simp [hy])
    rw [cnt_mem_cons x L n (h x (by simp)), List.nodup_cons, List.length_cons]
    by_cases hx : x ∈ L
    · rw [if_pos hx]
      exact ⟨by omega, ⟨fun e => by omega, fun e => absurd hx e.1⟩⟩
    · rw [if_neg hx]
      exact ⟨by omega, ⟨fun e => ⟨hx, i2.1 (by omega)⟩, fun e => by have := i2.2 e.2; omega⟩⟩
def idsB (l : List Pr) : Nat → Bool := fun r => decide (r ∈ l.map Pr.i)
theorem idsB_snoc (l : List Pr) (p : Pr) (r : Nat) : idsB (l ++ [p]) r = (idsB l r || decide (r = p.i)) := by
  unfold idsB
  rw [List.map_append, Bool.eq_iff_iff]
  simp
theorem pop_of (p : Nat → Bool) : popM (loM p) (hiM p) = cnt p 128 := cnt_congr fun i hi => bit_of p i hi
theorem ids_count (l : List Pr) (h : ∀ p ∈ l, p.i < 16) : popM (loM (idsB l)) (hiM (idsB l)) = l.length ↔ (l.map Pr.i).Nodup := by
  rw [pop_of]
  have := (cnt_mem (l.map Pr.i) 128 (fun x hx => by obtain ⟨p, hp, rfl⟩ := List.mem_map.1 hx; have := h p hp; omega)).2
  rw [List.length_map] at this
  exact this
theorem put_of (f : Nat → Bool) (r : Nat) (hr : r < 128) : loM (fun i => f i || decide (i = r)) = putA (loM f) r ∧ hiM (fun i => f i || decide (i = r)) = putB (hiM f) r :=
  mask_of (putA_lt (loM_lt f)) (putB_lt (hiM_lt f) hr) fun i hi => by rw [put_bit _ _ _ _ hr hi, bit_of f i hi]
def rksB (mem l : List Pr) : Nat → Bool := fun r => decide (∃ p ∈ l, p ∈ mem ∧ plc mem p = r)
theorem rksB_nil (mem : List Pr) (r : Nat) : rksB mem [] r = false := by simp [rksB]
theorem rksB_in (mem l : List Pr) (p : Pr) (hp : p ∈ mem) (r : Nat) : rksB mem (l ++ [p]) r = (rksB mem l r || decide (r = plc mem p)) := by
  unfold rksB
  rw [Bool.eq_iff_iff, Bool.or_eq_true, decide_eq_true_eq, decide_eq_true_eq, decide_eq_true_eq]
  constructor
  · rintro ⟨q, hq, hm, e⟩
    rcases List.mem_append.1 hq with h | h
    · exact .inl ⟨q, h, hm, e⟩
    · rw [List.mem_singleton] at h; subst h; exact .inr e.symm
  · rintro (⟨q, hq, hm, e⟩ | e)
    · exact ⟨q, by simp [hq], hm, e⟩
    · exact ⟨p, by simp, hp, e.symm⟩
theorem rksB_no (mem l : List Pr) (p : Pr) (hp : p ∉ mem) (r : Nat) : rksB mem (l ++ [p]) r = rksB mem l r := by
  unfold rksB
  rw [Bool.eq_iff_iff, decide_eq_true_eq, decide_eq_true_eq]
  constructor
  · rintro ⟨q, hq, hm, e⟩
    rcases List.mem_append.1 hq with h | h
    · exact ⟨q, h, hm, e⟩
    · rw [List.mem_singleton] at h; subst h; exact absurd hm hp
  · rintro ⟨q, hq, hm, e⟩
    exact ⟨q, by simp [hq], hm, e⟩
theorem rksB_append (mem l m : List Pr) (r : Nat) : rksB mem (l ++ m) r = (rksB mem l r || rksB mem m r) := by
  unfold rksB
  rw [Bool.eq_iff_iff, Bool.or_eq_true, decide_eq_true_eq, decide_eq_true_eq, decide_eq_true_eq]
  constructor
  · rintro ⟨q, hq, hm, e⟩
    rcases List.mem_append.1 hq with h | h
    · exact .inl ⟨q, h, hm, e⟩
    · exact .inr ⟨q, h, hm, e⟩
  · rintro (⟨q, hq, hm, e⟩ | ⟨q, hq, hm, e⟩)
    · exact ⟨q, by simp [hq], hm, e⟩
    · exact ⟨q, by simp [hq], hm, e⟩
def rkA (mem l : List Pr) : Nat := loM (rksB mem l)
def rkB (mem l : List Pr) : Nat := hiM (rksB mem l)
theorem rkA_lt (mem l : List Pr) : rkA mem l < 18446744073709551616 := loM_lt _
theorem rkB_lt (mem l : List Pr) : rkB mem l < 18446744073709551616 := hiM_lt _
theorem rk_nil (mem : List Pr) : rkA mem [] = 0 ∧ rkB mem [] = 0 := mask_of (by decide) (by decide) fun i hi => by rw [zero_bit, rksB_nil]
theorem rk_in (mem l : List Pr) (p : Pr) (hp : p ∈ mem) (hm : mem.length ≤ 128) : rkA mem (l ++ [p]) = putA (rkA mem l) (plc mem p) ∧ rkB mem (l ++ [p]) = putB (rkB mem l) (plc mem p) := by
  have hr : plc mem p < 128 := by have := plc_lt hp; omega
  have h := put_of (rksB mem l) (plc mem p) hr
  have e := of_congr (p := rksB mem (l ++ [p])) (q := fun i => rksB mem l i || decide (i = plc mem p)) fun i hi => rksB_in mem l p hp i
  exact ⟨e.1.trans h.1, e.2.trans h.2⟩
theorem rk_no (mem l : List Pr) (p : Pr) (hp : p ∉ mem) : rkA mem (l ++ [p]) = rkA mem l ∧ rkB mem (l ++ [p]) = rkB mem l := of_congr fun i hi => rksB_no mem l p hp i
theorem rk_or (mem l m : List Pr) : rkA mem (l ++ m) = rkA mem l ||| rkA mem m ∧ rkB mem (l ++ m) = rkB mem l ||| rkB mem m :=
  mask_of (or_lt64 (rkA_lt _ _) (rkA_lt _ _)) (or_lt64 (rkB_lt _ _) (rkB_lt _ _)) fun i hi => by
    rw [or_bit, rksB_append]
    unfold rkA rkB
    rw [bit_of _ i hi, bit_of _ i hi]
theorem rk_bit (mem l : List Pr) (i : Nat) (hi : i < 128) : bitM (rkA mem l) (rkB mem l) i = rksB mem l i := bit_of _ i hi
theorem rk_apart (mem l m : List Pr) (hl : ∀ p ∈ l, p ∈ mem) (hm : ∀ p ∈ m, p ∈ mem) (hs : mem.length ≤ 128) : (rkA mem l &&& rkA mem m = 0 ∧ rkB mem l &&& rkB mem m = 0) ↔ ∀ p ∈ l, p ∉ m := by
  constructor
  · rintro ⟨h1, h2⟩ p hp hp'
    have hr : plc mem p < 128 := by have := plc_lt (hl p hp); omega
    have hb := and_bit (rkA mem l) (rkB mem l) (rkA mem m) (rkB mem m) (plc mem p)
    rw [h1, h2, zero_bit, rk_bit _ _ _ hr, rk_bit _ _ _ hr] at hb
    have e1 : rksB mem l (plc mem p) = true := decide_eq_true ⟨p, hp, hl p hp, rfl⟩
    have e2 : rksB mem m (plc mem p) = true := decide_eq_true ⟨p, hp', hl p hp, rfl⟩
    rw [e1, e2] at hb
    exact absurd hb (by decide)
  · intro h
    refine mask_ext (and_lt64 _ (rkA_lt _ _)) (and_lt64 _ (rkB_lt _ _)) (by decide) (by decide) fun i hi => ?_
    rw [and_bit, zero_bit, rk_bit _ _ _ hi, rk_bit _ _ _ hi]
    rw [Bool.and_eq_false_iff]
    by_cases hx : rksB mem l i = true
    · right
      obtain ⟨p, hp, hpm, e⟩ := of_decide_eq_true hx
      refine decide_eq_false ?_
      rintro ⟨q, hq, hqm, e'⟩
      have : p = q := plc_inj hpm hqm (by omega)
      subst this
      exact h p hp hq
    · left; simpa using hx
theorem rk_all (mem l : List Pr) (hn : mem.Nodup) (hl : ∀ p ∈ l, p ∈ mem) (hs : mem.length ≤ 128) : (rkA mem l = fstA mem.length ∧ rkB mem l = fstB mem.length) ↔ ∀ p ∈ mem, p ∈ l := by
  constructor
  · rintro ⟨h1, h2⟩ p hp
    have hr := plc_lt hp
    have hb := rk_bit mem l (plc mem p) (by omega)
    rw [h1, h2, fst_bit _ _ hs (by omega), decide_eq_true hr] at hb
    obtain ⟨q, hq, hqm, e⟩ := of_decide_eq_true hb.symm
    rwa [plc_inj hqm hp e] at hq
  · intro h
    refine mask_of (by unfold fstA; exact fst_lt (by omega)) (by unfold fstB; exact fst_lt (by omega)) fun i hi => ?_
    rw [fst_bit _ _ hs hi]
    unfold rksB
    rw [decide_eq_decide]
    constructor
    · intro hlt
      exact ⟨mem[i], h _ (List.getElem_mem hlt), List.getElem_mem hlt, plc_nodup hn hlt⟩
    · rintro ⟨p, hp, hm, e⟩
      have := plc_lt hm
      omega
structure LvsTo (mem : List Pr) (lvs : List (List Pr)) (k : Nat) : Prop where
  each : ∀ l ∈ lvs.take k, l ≠ [] ∧ RiseP mem l
  nodup : (lvs.take k).flatten.Nodup
theorem LvsTo.start (mem : List Pr) (lvs : List (List Pr)) : LvsTo mem lvs 0 := ⟨fun l h => by simp at h, by simp⟩
theorem flatten_take {lvs : List (List Pr)} {k : Nat} (hk : k < lvs.length) : (lvs.take (k + 1)).flatten = (lvs.take k).flatten ++ lvs[k] := by
  rw [List.take_succ_eq_append_getElem hk, List.flatten_append]; simp
theorem LvsTo.mem {mem : List Pr} {lvs : List (List Pr)} {k : Nat} (h : LvsTo mem lvs k) : ∀ p ∈ (lvs.take k).flatten, p ∈ mem := fun p hp => by
  obtain ⟨l, hl, hpl⟩ := List.mem_flatten.1 hp
  exact (h.each l hl).2.1 p hpl
theorem LvsTo.step {mem : List Pr} {lvs : List (List Pr)} {k : Nat} (h : LvsTo mem lvs k) (hk : k < lvs.length) (h1 : lvs[k] ≠ []) (h2 : RiseP mem lvs[k]) (h3 : ∀ p ∈ (lvs.take k).flatten, p ∉ lvs[k]) : LvsTo mem lvs (k + 1) := by
  refine ⟨fun l hl => ?_, ?_⟩
  · rw [List.take_succ_eq_append_getElem hk, List.mem_append, List.mem_singleton] at hl
    exact hl.elim (h.each l) (fun e => e ▸ ⟨h1, h2⟩)
  · rw [flatten_take hk, List.nodup_append]
    exact ⟨h.nodup, h2.nodup, fun a ha b hb e => h3 a ha (e ▸ hb)⟩
theorem LvsTo.empty {mem : List Pr} {lvs : List (List Pr)} {k : Nat} (hk : k < lvs.length) (h1 : lvs[k] = []) : ¬ LeavesP mem lvs := fun h => (h.each _ (List.getElem_mem hk)).1 h1
theorem LvsTo.falls {mem : List Pr} {lvs : List (List Pr)} {k : Nat} (hk : k < lvs.length) (h1 : ¬ RiseP mem lvs[k]) : ¬ LeavesP mem lvs := fun h => h1 (h.each _ (List.getElem_mem hk)).2
theorem LvsTo.twice {mem : List Pr} {lvs : List (List Pr)} {k : Nat} (h : LvsTo mem lvs k) (hk : k < lvs.length) (h3 : ¬ ∀ p ∈ (lvs.take k).flatten, p ∉ lvs[k]) : ¬ LeavesP mem lvs := by
  intro hL
  refine h3 fun p hp hp' => ?_
  have hpm := h.mem p hp
  have h1 := hL.once p hpm
  have e : lvs.flatten = (lvs.take k).flatten ++ (lvs[k] ++ (lvs.drop (k + 1)).flatten) := by
    conv => lhs; rw [← List.take_append_drop k lvs, List.flatten_append, List.drop_eq_getElem_cons hk, List.flatten_cons]
  rw [e, List.count_append, List.count_append] at h1
  have c1 := List.count_pos_iff.2 hp
  have c2 := List.count_pos_iff.2 hp'
  omega
theorem LvsTo.done {mem : List Pr} {lvs : List (List Pr)} {k : Nat} (h : LvsTo mem lvs k) (hk : lvs.length ≤ k) : LeavesP mem lvs ↔ (∀ p ∈ mem, p ∈ lvs.flatten) ∧ RiseP mem (firstsP lvs) := by
  obtain ⟨h1, h2⟩ := h
  rw [List.take_of_length_le hk] at h1 h2
  constructor
  · intro hL
    exact ⟨fun p hp => List.count_pos_iff.1 (by have := hL.once p hp; omega), hL.firsts⟩
  · rintro ⟨h3, h4⟩
    exact ⟨h1, fun p hp => by
      have a := List.count_pos_iff.2 (h3 p hp)
      have b := List.nodup_iff_count.1 h2 p
      omega, h4⟩
def quoB (ldr l : List Pr) : Bool := decide (ldr.length < 2 * (dedup (ldr.filter fun p => decide (p ∈ l))).length)
def QuoTo (ldr l : List Pr) (k n : Nat) : Prop := n = (dedup ((ldr.take k).filter fun p => decide (p ∈ l))).length
theorem QuoTo.start (ldr l : List Pr) : QuoTo ldr l 0 0 := by simp [QuoTo, dedup]
theorem QuoTo.yes {ldr l : List Pr} {k n : Nat} (h : QuoTo ldr l k n) (hk : k < ldr.length) (h1 : plc ldr ldr[k] = k) (h2 : ldr[k] ∈ l) : QuoTo ldr l (k + 1) (n + 1) := by
  unfold QuoTo at *
  rw [List.take_succ_eq_append_getElem hk, List.filter_append, List.filter_cons_of_pos (by simpa using h2), List.filter_nil, dedup_snoc, dedS, if_neg, List.length_append, ← h]
  · rfl
  · rw [mem_dedup]
    intro hm
    have hm := (List.mem_filter.1 hm).1
    have h3 := plc_lt hm
    rw [plc_take hm, List.length_take] at h3
    omega
theorem QuoTo.twice {ldr l : List Pr} {k n : Nat} (h : QuoTo ldr l k n) (hk : k < ldr.length) (h1 : plc ldr ldr[k] ≠ k) : QuoTo ldr l (k + 1) n := by
  have hm : ldr[k] ∈ ldr.take k := Classical.byContradiction fun hn => h1 (plc_first hk hn)
  unfold QuoTo at *
  rw [List.take_succ_eq_append_getElem hk, List.filter_append]
  by_cases h2 : ldr[k] ∈ l
  · rw [List.filter_cons_of_pos (by simpa using h2), List.filter_nil, dedup_snoc, dedS, if_pos, ← h]
    rw [mem_dedup]
    exact List.mem_filter.2 ⟨hm, by simpa using h2⟩
  · rw [List.filter_cons_of_neg (by simpa using h2), List.filter_nil, List.append_nil, ← h]
theorem QuoTo.no {ldr l : List Pr} {k n : Nat} (h : QuoTo ldr l k n) (hk : k < ldr.length) (h2 : ldr[k] ∉ l) : QuoTo ldr l (k + 1) n := by
  unfold QuoTo at *
  rw [List.take_succ_eq_append_getElem hk, List.filter_append, List.filter_cons_of_neg (by simpa using h2), List.filter_nil, List.append_nil, ← h]
theorem QuoTo.done {ldr l : List Pr} {k n : Nat} (h : QuoTo ldr l k n) (hk : ldr.length ≤ k) : quoB ldr l = decide (ldr.length < 2 * n) := by
  unfold QuoTo at h
  rw [List.take_of_length_le hk] at h
  unfold quoB
  rw [← h]
end Go.Proofs.YtjmkecaljkcoiaaGreatDoor
