import Derived.BigQuiet
import Derived.Deep.RegionHeld3
import Derived.Test.YtjmkecaljkcoiaaGreatDoorQRowE
import Derived.Outline
import Derived.Deep.QuietTactic
import Derived.WalkSpells
import Derived.WalkKit
import Derived.Laws.BitsAllLaws
namespace Go.Proofs.YtjmkecaljkcoiaaGreatDoor
open Go.RowKit
def Later (w0 : World) : Type := { v : World // Below w0.heap.size w0 v }
instance later_nonempty (w0 : World) : Nonempty (Later w0) := ⟨⟨w0, Below.refl _ _⟩⟩
def Later.w {w0 : World} (x : Later w0) : World := x.1
theorem Later.below {w0 : World} (x : Later w0) : Below w0.heap.size w0 x.w := x.2
theorem Later.cell {w0 : World} {b o : Nat} {v : Value} (h : w0.cell? ⟨b, o, none⟩ = some v) : ∀ x : Later w0, x.w.cell? ⟨b, o, none⟩ = some v :=
  fun x => (x.2.cell (World.block_lt_of_cell? w0 _ h)).trans h
theorem Later.cellAt {w0 : World} {a : Addr} {v : Value} (h : w0.cell? a = some v) : ∀ x : Later w0, x.w.cell? a = some v :=
  fun x => (x.2.cell (World.block_lt_of_cell? w0 _ h)).trans h
theorem calm_of {P : Program} {f : FuncId} {args : Array Value} {w0 : World} {x : Later w0} {v : Value}
    (h : Calls P f args x.w fun e w' => e = .returned v ∧ Below x.w.heap.size x.w w') : Calls P f args x.w fun e w'' => e = .returned v ∧ ∃ y : Later w0, w'' = y.w :=
  h.mono fun _ w' ⟨he, hb⟩ => ⟨he, ⟨w', x.2.trans (hb.mono x.2.size)⟩, rfl⟩
theorem calm_drawn {P : Program} {f : FuncId} {args : Array Value} {w0 : World} {x : Later w0} {v : Value}
    (h : Calls P f args x.w fun e w' => e = .returned v ∧ Drawn x.w w') : Calls P f args x.w fun e w'' => e = .returned v ∧ ∃ y : Later w0, w'' = y.w :=
  h.mono fun _ w' ⟨he, k, hk⟩ => ⟨he, ⟨w', by rw [hk]; exact below_drewN x.2 k⟩, rfl⟩
theorem wp_region_calm {P : Program} {id : Nat} {Q : Exit → Act → World → Prop} {a : Act} {w : World} {l : List Oper} (hm : P.follows .mixedOrders = true) (hB : Region.lexB .any l.toArray = true)
    (h : wpQuiet P l.toArray (fun w' => ∃ x : Later w, w' = x.w) (fun a' => ∀ w', (∃ x : Later w, w' = x.w) → Q .normal a' w') l a) : (Code.region id l.toArray true).wp P Q a w :=
  wp_region_quiet (C := fun w' => ∃ x : Later w, w' = x.w) hm hB ⟨⟨w.drew, (Below.refl _ _).drew⟩, rfl⟩ (by simpa using h)
end Go.Proofs.YtjmkecaljkcoiaaGreatDoor
namespace Go.Proofs.YtjmkecaljkcoiaaGreatDoor
open Go.RowKit
set_option linter.unusedVariables false
set_option linter.unusedSimpArgs false
def aheadB (i c j d : Nat) : Bool := decide (i * 4294967296 + c < j * 4294967296 + d)
def beforeB (r i c s j d : Nat) : Bool := if r = s then aheadB i c j d else decide (r < s)
end Go.Proofs.YtjmkecaljkcoiaaGreatDoor
namespace Go.Proofs.YtjmkecaljkcoiaaGreatDoor
open Go.RowKit
set_option linter.unusedVariables false
set_option linter.unusedSimpArgs false
structure Pr where
  i : Nat
  k : Nat
  hi : i < 65536
  hk : k < 4294967296
theorem Pr.ext {p q : Pr} (h : p.i = q.i) (h' : p.k = q.k) : p = q := by
  cases p; cases q; simp only at h h'; subst h; subst h'; rfl
instance : DecidableEq Pr := fun p q => if h : p.i = q.i ∧ p.k = q.k then isTrue (Pr.ext h.1 h.2) else isFalse (fun e => h (by rw [e]; exact ⟨rfl, rfl⟩))
instance : Inhabited Pr := ⟨⟨0, 0, by decide, by decide⟩⟩
def Pr.num (p : Pr) : Nat := p.i * 4294967296 + p.k
def Pr.ahead (p q : Pr) : Bool := decide (p.num < q.num)
def prC (p : Pr) : List Value := [.int .u16 p.i, .int .u32 p.k]
theorem prOk : EncOk prC 2 := ⟨fun _ => rfl, fun p v hv => by simp [prC] at hv; rcases hv with rfl | rfl <;> rfl, by decide⟩
theorem info_pid : (Tryz.prog.info? 44).map (fun i => (i.zero, i.size, i.bytes)) = some (some (.agg #[.int .u16 0, .int .u32 0]), 2, 8) := by kernel_rfl
abbrev OwnP (w : World) (base : Nat) (v : Value) (n : Nat) (l : List Pr) : Prop := OwnE 44 prC 2 w base v n l
def Ps0 (w : World) (A : Option Addr) (n c : Nat) (l : List Pr) : Prop := Es prC w w.heap.size A n l ∧ n ≤ c ∧ c ≤ maxLen
theorem pr_at {w : World} {ad : Addr} {j : Nat} {q : Pr} (hc : ∀ i v, (prC q)[i]? = some v → w.cell? (ad.add (j * 2 + i)) = some v) :
    w.cell? (ad.add (j * 2)) = some (.int .u16 q.i) ∧ w.cell? ⟨(ad.add (j * 2)).block, (ad.add (j * 2)).off + 1, none⟩ = some (.int .u32 q.k) := by
  refine ⟨hc 0 _ rfl, ?_⟩
  have h := hc 1 _ rfl
  rw [← add_of_add] at h
  exact h
def NotIn (p : Pr) (l : List Pr) (j : Nat) : Prop := p ∉ l.take j
theorem NotIn.start (p : Pr) (l : List Pr) : NotIn p l 0 := by simp [NotIn]
theorem NotIn.step {p : Pr} {l : List Pr} {j : Nat} (h : NotIn p l j) (hj : j < l.length) (hne : l[j] ≠ p) : NotIn p l (j + 1) := by
  unfold NotIn
  rw [List.take_succ_eq_append_getElem hj, List.mem_append, List.mem_singleton]
  exact fun h' => h'.elim h (fun e => hne e.symm)
theorem NotIn.done {p : Pr} {l : List Pr} {j : Nat} (h : NotIn p l j) (hj : l.length ≤ j) : decide (p ∈ l) = false := by
  unfold NotIn at h
  rw [List.take_of_length_le hj] at h
  exact decide_eq_false h
def SameTo (l m : List Pr) (j : Nat) : Prop := l.take j = m.take j
theorem SameTo.step {l m : List Pr} {j : Nat} (h : SameTo l m j) (h1 : j < l.length) (h2 : j < m.length) (he : l[j] = m[j]) : SameTo l m (j + 1) := by
  unfold SameTo at *
  rw [List.take_succ_eq_append_getElem h1, List.take_succ_eq_append_getElem h2, h, he]
theorem SameTo.done {l m : List Pr} {j : Nat} (h : SameTo l m j) (h1 : l.length ≤ j) (h2 : m.length ≤ j) : l = m := by
  unfold SameTo at h
  rwa [List.take_of_length_le h1, List.take_of_length_le h2] at h
set_option maxRecDepth 100000 in
theorem samep_any (A A' : Option Addr) (n m c c' : Nat) (l l' : List Pr) (B B' : Nat) (w : World) (hA : Es prC w B A n l) (hA' : Es prC w B' A' m l') (hn : n ≤ maxLen) (hm : m ≤ maxLen) :
    Calls Tryz.prog 36 #[.slice A n c, .slice A' m c'] w fun e w' => e = .returned (.bool (decide (l = l'))) ∧ Drawn w w' := by
  unfold maxLen at hn hm
  have hlen := hA.len
  have hlen' := hA'.len
  obtain ⟨r, hr⟩ : ∃ r, r = decide (l = l') := ⟨_, rfl⟩
  rw [← hr]
  by_cases hnm : n = m
  · subst hnm
    have HL := hide hlen
    have HL' := hide hlen'
    have HR := hide hr
    clear hlen hlen' hr
    have h0 : SameTo l l' 0 := by simp [SameTo]
    go_enter Tryz.func36, Tryz.ntmps36
    go_wp2
    go_loopw [5] (fun i wr => ∃ j : Nat, j ≤ n ∧ i = .int .i64 j ∧ SameTo l l' j ∧ Drawn w wr) (fun i _ => n - (intOf i).toNat)
    case atStart => exact ⟨0, Nat.zero_le _, rfl, h0, Drawn.refl _⟩
    case round =>
      obtain ⟨j, hj, rfl, hsame, hd⟩ := hrel
      obtain ⟨n0, rfl⟩ := hd
      by_cases hlt : j < n
      · obtain ⟨ad, hl, rfl, hbl, hc⟩ := hA.at_ prOk hlt
        obtain ⟨ad', hl', rfl, hbl', hc'⟩ := hA'.at_ prOk hlt
        obtain ⟨q, hq⟩ : ∃ q, q = l[j] := ⟨_, rfl⟩
        obtain ⟨p, hp⟩ : ∃ p, p = l'[j] := ⟨_, rfl⟩
        rw [← hq] at hc
        rw [← hp] at hc'
        obtain ⟨c0, c1⟩ := pr_at hc
        obtain ⟨d0, d1⟩ := pr_at hc'
        have HQ := hide hq
        have HP := hide hp
        clear hc hq hc' hp
        have z1 : (0 : Int) ≤ (j : Int) := by omega
        have z2 : (j : Int) < (n : Int) := by omega
        by_cases hqi : q.i = p.i
        · by_cases hqk : q.k = p.k
          · have hst := hsame.step hl hl' (by rw [← HQ.out, ← HP.out]; exact Pr.ext hqi hqk)
            rw [hqi] at c0
            rw [hqk] at c1
            clear hqi hqk
            go_wp2_with fail
            go_quiet (fail)
            go_wp2
            go_roundw
            case rel => exact ⟨j + 1, by omega, by go_num, hst, (by first | exact drawn_one _ _ | exact drawn_two _ _ _)⟩
            case measure => simp [intOf]; omega
          · have hf : decide (l = l') = false := decide_eq_false (fun e => hqk (by rw [HQ.out, HP.out]; subst e; rfl))
            have HI := hide (HR.out.trans hf)
            have q3 : ¬ ((q.k : Int) = (p.k : Int)) := by omega
            rw [hqi] at c0
            clear hqi hqk hf
            go_wp2_with fail
            go_quiet (fail)
            go_wp2
            go_ret
            exact ⟨ret_bool HI.out.symm, (by first | exact drawn_one _ _ | exact drawn_two _ _ _)⟩
        · have hf : decide (l = l') = false := decide_eq_false (fun e => hqi (by rw [HQ.out, HP.out]; subst e; rfl))
          have HI := hide (HR.out.trans hf)
          have q3 : ¬ ((q.i : Int) = (p.i : Int)) := by omega
          clear hqi hf
          go_wp2_with fail
          go_quiet (fail)
          go_wp2
          go_ret
          exact ⟨ret_bool HI.out.symm, (by first | exact drawn_one _ _ | exact drawn_two _ _ _)⟩
      · have hf : decide (l = l') = true := decide_eq_true (hsame.done (by rw [HL.out]; omega) (by rw [HL'.out]; omega))
        have HI := hide (HR.out.trans hf)
        clear hf
        go_wp2
        go_ret
        exact ⟨ret_bool HI.out.symm, drawn_one _ _⟩
  · have hf : decide (l = l') = false := decide_eq_false (fun e => hnm (by rw [← hlen, ← hlen', e]))
    have HI := hide (hr.trans hf)
    have hne : ((n : Int) != (m : Int)) = true := by simp; omega
    clear hf hr hlen hlen'
    go_enter Tryz.func36, Tryz.ntmps36
    go_wp2
    go_ret
    exact ⟨ret_bool HI.out.symm, Drawn.refl _⟩
end Go.Proofs.YtjmkecaljkcoiaaGreatDoor
namespace Go.Proofs.YtjmkecaljkcoiaaGreatDoor
set_option linter.unusedVariables false
def dedS (acc : List Pr) (p : Pr) : List Pr := if p ∈ acc then acc else acc ++ [p]
def dedup (l : List Pr) : List Pr := l.foldl dedS []
def insP (p : Pr) : List Pr → List Pr
  | [] => [p]
  | q :: r => if q.ahead p then q :: insP p r else p :: q :: r
def posF (p : Pr) : List Pr → Nat
  | [] => 0
  | q :: r => if q.ahead p then posF p r + 1 else 0
def insS (acc : List Pr) (p : Pr) : List Pr := if p ∈ acc then acc else insP p acc
def sortP (l : List Pr) : List Pr := l.foldl insS []
def PosTo (p : Pr) (l : List Pr) (a : Nat) : Prop := posF p l = a + posF p (l.drop a)
theorem PosTo.start (p : Pr) (l : List Pr) : PosTo p l 0 := by simp [PosTo]
theorem PosTo.step {p : Pr} {l : List Pr} {a : Nat} (h : PosTo p l a) (ha : a < l.length) (hh : l[a].ahead p = true) : PosTo p l (a + 1) := by
  unfold PosTo at *
  rw [List.drop_eq_getElem_cons ha, posF, if_pos hh] at h
  omega
theorem PosTo.stop {p : Pr} {l : List Pr} {a : Nat} (h : PosTo p l a) (ha : a < l.length) (hh : l[a].ahead p = false) : posF p l = a := by
  unfold PosTo at *
  rw [List.drop_eq_getElem_cons ha, posF, if_neg (by simp [hh])] at h
  omega
theorem PosTo.end_ {p : Pr} {l : List Pr} {a : Nat} (h : PosTo p l a) (ha : l.length ≤ a) : posF p l = a := by
  unfold PosTo at *
  rw [List.drop_eq_nil_of_le ha, posF] at h
  omega
theorem or_three {A B C : Prop} : (A ∨ B ∨ C) ↔ ((B ∨ A) ∨ C) := ⟨fun h => h.elim (fun a => .inl (.inr a)) (fun h => h.elim (fun b => .inl (.inl b)) .inr), fun h => h.elim (fun h => h.elim (fun b => .inr (.inl b)) .inl) (fun c => .inr (.inr c))⟩
abbrev Rising (l : List Pr) : Prop := l.Pairwise fun p q => p.num < q.num
theorem dedup_snoc (l : List Pr) (p : Pr) : dedup (l ++ [p]) = dedS (dedup l) p := by simp [dedup]
theorem dedup_fold (l acc : List Pr) (h : acc.Nodup) : (l.foldl dedS acc).Nodup ∧ ∀ x, x ∈ l.foldl dedS acc ↔ x ∈ l ∨ x ∈ acc := by
  induction l generalizing acc with
  | nil => exact ⟨h, fun x => by simp⟩
  | cons p r ih =>
    have h1 : (dedS acc p).Nodup ∧ ∀ x, x ∈ dedS acc p ↔ x = p ∨ x ∈ acc := by
      unfold dedS
      split
      · rename_i hp
        exact ⟨h, fun x => ⟨.inr, fun e => e.elim (fun e => e ▸ hp) id⟩⟩
      · rename_i hp
        refine ⟨List.nodup_append.2 ⟨h, by simp, fun a ha b hb => ?_⟩, fun x => by rw [List.mem_append, List.mem_singleton, or_comm]⟩
        rw [List.mem_singleton] at hb
        subst hb
        exact fun e => hp (e ▸ ha)
    obtain ⟨h3, h4⟩ := ih _ h1.1
    exact ⟨h3, fun x => by rw [List.foldl_cons, h4, h1.2, List.mem_cons]; exact or_three⟩
theorem mem_dedup (l : List Pr) (x : Pr) : x ∈ dedup l ↔ x ∈ l := by
  have := (dedup_fold l [] List.nodup_nil).2 x
  simpa [dedup] using this
open Go.RowKit
def MakesP (w : World) (m : List Pr) (e : Ending) (w' : World) : Prop :=
  ∃ A c, e = .returned (.slice A m.length c) ∧ OwnP w' w.heap.size (.slice A m.length c) m.length m ∧ Below w.heap.size w w'
theorem es_lit (w : World) (q : Pr) (T : TypeId) : Es prC (w.alloc (.cells #[.int .u16 q.i, .int .u32 q.k] T)) (w.heap.size + 1) (some ⟨w.heap.size, 0, none⟩) 1 [q] := by
  refine ⟨rfl, fun _ => ⟨_, rfl, Nat.lt_succ_self _, fun j v hv => ?_⟩⟩
  rw [ec_one] at hv
  have hj : j < 2 := (List.getElem?_eq_some_iff.1 hv).1
  obtain rfl | rfl : j = 0 ∨ j = 1 := by omega
  · simp [prC] at hv
    subst hv
    exact cell_of_row _ _ 0 _ T (0, 0) (heap_alloc_new w _)
  · simp [prC] at hv
    subst hv
    exact cell_of_row _ _ 1 _ T (0, 0) (heap_alloc_new w _)
end Go.Proofs.YtjmkecaljkcoiaaGreatDoor
namespace Go.Proofs.YtjmkecaljkcoiaaGreatDoor
open Go.RowKit
set_option linter.unusedVariables false
theorem two64 : (18446744073709551616 : Nat) = 2 ^ 64 := by decide
def bitM (a b i : Nat) : Bool := if i < 64 then a.testBit i else b.testBit (i - 64)
def cnt (p : Nat → Bool) : Nat → Nat
  | 0 => 0
  | n + 1 => cnt p n + (p n).toNat
theorem cnt_yes {p : Nat → Bool} {n : Nat} (h : p n = true) : cnt p (n + 1) = cnt p n + 1 := by simp [cnt, h]
theorem cnt_no {p : Nat → Bool} {n : Nat} (h : p n = false) : cnt p (n + 1) = cnt p n := by simp [cnt, h]
theorem cnt_add (p : Nat → Bool) (m n : Nat) : cnt p (m + n) = cnt p m + cnt (fun i => p (m + i)) n := by
  induction n with
  | zero => simp [cnt]
  | succ n ih => rw [← Nat.add_assoc, cnt, ih, cnt]; omega
theorem cnt_congr {p q : Nat → Bool} {n : Nat} (h : ∀ i, i < n → p i = q i) : cnt p n = cnt q n := by
  induction n with
  | zero => rfl
  | succ n ih => rw [cnt, cnt, ih (fun i hi => h i (by omega)), h n (by omega)]
theorem cnt_le (p : Nat → Bool) (n : Nat) : cnt p n ≤ n := by
  induction n with
  | zero => simp [cnt]
  | succ n ih => rw [cnt]; have := Bool.toNat_le (p n); omega
theorem cnt_none {p : Nat → Bool} {n : Nat} (h : ∀ i, i < n → p i = false) : cnt p n = 0 := by
  induction n with
  | zero => rfl
  | succ n ih => rw [cnt, ih (fun i hi => h i (by omega)), h n (by omega)]; rfl
def popW (x : Nat) : Nat := cnt x.testBit 64
def popM (a b : Nat) : Nat := cnt (bitM a b) 128
theorem popM_eq (a b : Nat) : popM a b = popW a + popW b := by
  unfold popM popW
  rw [show 128 = 64 + 64 from rfl, cnt_add]
  rw [show cnt (bitM a b) 64 = cnt a.testBit 64 from cnt_congr fun i hi => by simp [bitM, hi], show cnt (fun i => bitM a b (64 + i)) 64 = cnt b.testBit 64 from cnt_congr fun i hi => by simp only [bitM, if_neg (show ¬ 64 + i < 64 by omega), Nat.add_sub_cancel_left]]
theorem popW_le (x : Nat) : popW x ≤ 64 := cnt_le _ _
theorem popM_le (a b : Nat) : popM a b ≤ 128 := cnt_le _ _
structure PopInv (x n0 j n y : Nat) : Prop where
  rest : y = x / 2 ^ j
  got : n = n0 + cnt x.testBit j
  upto : j ≤ 64
theorem PopInv.start (x n0 : Nat) : PopInv x n0 0 n0 x := ⟨by simp, by simp [cnt], by omega⟩
theorem PopInv.step {x n0 j n y : Nat} (h : PopInv x n0 j n y) (hx : x < 18446744073709551616) (hy : y ≠ 0) : PopInv x n0 (j + 1) (n + y % 2) (y / 2) := by
  obtain ⟨h1, h2, h3⟩ := h
  have hb : (x.testBit j).toNat = y % 2 := by
    rw [Nat.testBit_eq_decide_div_mod_eq, h1]
    have := Nat.mod_two_eq_zero_or_one (x / 2 ^ j)
    rcases this with h | h <;> simp [h]
  refine ⟨by rw [h1, Nat.div_div_eq_div_mul, ← Nat.pow_succ], by rw [h2, cnt, hb]; omega, ?_⟩
  rcases Nat.lt_or_ge j 64 with h | h
  · omega
  · exfalso
    apply hy
    rw [h1]
    apply Nat.div_eq_of_lt
    exact Nat.lt_of_lt_of_le hx (Nat.le_trans (by decide) (Nat.pow_le_pow_right (n := 2) (by decide) h))
theorem PopInv.stop {x n0 j n : Nat} (h : PopInv x n0 j n 0) : n = n0 + popW x := by
  obtain ⟨h1, h2, h3⟩ := h
  rw [h2, popW]
  obtain ⟨k, hk⟩ : ∃ k, 64 = j + k := ⟨64 - j, by omega⟩
  rw [hk, cnt_add, cnt_none (p := fun i => x.testBit (j + i)) (n := k)]
  · omega
  · intro i _
    rw [show j + i = i + j from Nat.add_comm _ _, ← Nat.testBit_div_two_pow, ← h1, Nat.zero_testBit]
theorem PopInv.small {x n0 j n y : Nat} (h : PopInv x n0 j n y) : n ≤ n0 + 64 := by
  rw [h.got]
  have := cnt_le x.testBit j
  have := h.upto
  omega
theorem PopInv.fits {x n0 j n y : Nat} (h : PopInv x n0 j n y) (hx : x < 18446744073709551616) : y < 18446744073709551616 := by
  rw [h.rest]
  exact Nat.lt_of_le_of_lt (Nat.div_le_self _ _) hx
theorem word_ext {a c : Nat} (ha : a < 18446744073709551616) (hc : c < 18446744073709551616) (h : ∀ i, i < 64 → a.testBit i = c.testBit i) : a = c := by
  apply Nat.eq_of_testBit_eq
  intro i
  by_cases hi : i < 64
  · exact h i hi
  · rw [Nat.testBit_lt_two_pow (Nat.lt_of_lt_of_le ha (by rw [two64]; exact Nat.pow_le_pow_right (by decide) (by omega))),
      Nat.testBit_lt_two_pow (Nat.lt_of_lt_of_le hc (by rw [two64]; exact Nat.pow_le_pow_right (by decide) (by omega)))]
theorem mask_ext {a b c d : Nat} (ha : a < 18446744073709551616) (hb : b < 18446744073709551616) (hc : c < 18446744073709551616) (hd : d < 18446744073709551616)
    (h : ∀ i, i < 128 → bitM a b i = bitM c d i) : a = c ∧ b = d := by
  constructor
  · refine word_ext ha hc fun i hi => ?_
    have := h i (by omega)
    simpa [bitM, hi] using this
  · refine word_ext hb hd fun i hi => ?_
    have := h (i + 64) (by omega)
    simpa only [bitM, if_neg (show ¬ i + 64 < 64 by omega), Nat.add_sub_cancel] using this
def wordOf : (Nat → Bool) → Nat → Nat
  | _, 0 => 0
  | p, k + 1 => 2 * wordOf (fun i => p (i + 1)) k + (p 0).toNat
theorem wordOf_lt (p : Nat → Bool) (k : Nat) : wordOf p k < 2 ^ k := by
  induction k generalizing p with
  | zero => simp [wordOf]
  | succ k ih =>
    have := ih (fun i => p (i + 1))
    have := Bool.toNat_le (p 0)
    rw [wordOf, Nat.pow_succ]
    omega
theorem wordOf_bit (p : Nat → Bool) (k i : Nat) (h : i < k) : (wordOf p k).testBit i = p i := by
  induction k generalizing p i with
  | zero => omega
  | succ k ih =>
    cases i with
    | zero =>
      rw [Nat.testBit_zero, wordOf]
      cases hp : p 0 <;> simp
    | succ i =>
      rw [Nat.testBit_succ, show wordOf p (k + 1) / 2 = wordOf (fun i => p (i + 1)) k from by rw [wordOf]; have := Bool.toNat_le (p 0); omega]
      exact ih (fun i => p (i + 1)) i (by omega)
theorem wordOf_congr {p q : Nat → Bool} {k : Nat} (h : ∀ i, i < k → p i = q i) : wordOf p k = wordOf q k := by
  induction k generalizing p q with
  | zero => rfl
  | succ k ih => rw [wordOf, wordOf, ih (p := fun i => p (i + 1)) (q := fun i => q (i + 1)) (fun i hi => h (i + 1) (by omega)), h 0 (by omega)]
def loM (p : Nat → Bool) : Nat := wordOf p 64
def hiM (p : Nat → Bool) : Nat := wordOf (fun i => p (i + 64)) 64
theorem loM_lt (p : Nat → Bool) : loM p < 18446744073709551616 := by rw [two64]; exact wordOf_lt p 64
theorem hiM_lt (p : Nat → Bool) : hiM p < 18446744073709551616 := by rw [two64]; exact wordOf_lt _ 64
theorem bit_of (p : Nat → Bool) (i : Nat) (h : i < 128) : bitM (loM p) (hiM p) i = p i := by
  unfold bitM
  by_cases hi : i < 64
  · rw [if_pos hi]; exact wordOf_bit p 64 i hi
  · rw [if_neg hi, hiM, wordOf_bit _ 64 (i - 64) (by omega)]
    congr 1; omega
theorem mask_of {a b : Nat} {p : Nat → Bool} (ha : a < 18446744073709551616) (hb : b < 18446744073709551616) (h : ∀ i, i < 128 → bitM a b i = p i) : loM p = a ∧ hiM p = b :=
  mask_ext (loM_lt p) (hiM_lt p) ha hb fun i hi => (bit_of p i hi).trans (h i hi).symm
theorem of_congr {p q : Nat → Bool} (h : ∀ i, i < 128 → p i = q i) : loM p = loM q ∧ hiM p = hiM q :=
  ⟨wordOf_congr fun i hi => h i (by omega), wordOf_congr fun i hi => h (i + 64) (by omega)⟩
def putA (a r : Nat) : Nat := if r < 64 then a ||| 2 ^ r else a
def putB (b r : Nat) : Nat := if r < 64 then b else b ||| 2 ^ (r - 64)
def cutA (a r : Nat) : Nat := if r < 64 then a &&& (18446744073709551615 - 2 ^ r) else a
def cutB (b r : Nat) : Nat := if r < 64 then b else b &&& (18446744073709551615 - 2 ^ (r - 64))
theorem pow_lt64 {r : Nat} (h : r < 64) : 2 ^ r < 18446744073709551616 := by rw [two64]; exact Nat.pow_lt_pow_right (by decide) h
theorem or_lt64 {a c : Nat} (ha : a < 18446744073709551616) (hc : c < 18446744073709551616) : a ||| c < 18446744073709551616 := by rw [two64] at *; exact Nat.or_lt_two_pow ha hc
theorem and_lt64 {a : Nat} (c : Nat) (ha : a < 18446744073709551616) : a &&& c < 18446744073709551616 := Nat.lt_of_le_of_lt Nat.and_le_left ha
theorem putA_lt {a r : Nat} (ha : a < 18446744073709551616) : putA a r < 18446744073709551616 := by
  unfold putA; split
  · exact or_lt64 ha (pow_lt64 (by assumption))
  · exact ha
theorem putB_lt {b r : Nat} (hb : b < 18446744073709551616) (hr : r < 128) : putB b r < 18446744073709551616 := by
  unfold putB; split
  · exact hb
  · exact or_lt64 hb (pow_lt64 (by omega))
theorem put_bit (a b r i : Nat) (hr : r < 128) (hi : i < 128) : bitM (putA a r) (putB b r) i = (bitM a b i || decide (i = r)) := by
  unfold bitM putA putB
  by_cases h1 : i < 64 <;> by_cases h2 : r < 64
  · rw [if_pos h1, if_pos h1, if_pos h2, Nat.testBit_or, Nat.testBit_two_pow]
    congr 1; exact decide_eq_decide.2 ⟨fun h => h.symm, fun h => h.symm⟩
  · rw [if_pos h1, if_pos h1, if_neg h2, decide_eq_false (by omega)]; simp
  · rw [if_neg h1, if_neg h1, if_pos h2, decide_eq_false (by omega)]; simp
  · rw [if_neg h1, if_neg h1, if_neg h2, Nat.testBit_or, Nat.testBit_two_pow]
    congr 1; exact decide_eq_decide.2 ⟨fun h => by omega, fun h => by omega⟩
theorem and_bit (a b c d i : Nat) : bitM (a &&& c) (b &&& d) i = (bitM a b i && bitM c d i) := by
  unfold bitM; split <;> exact Nat.testBit_and _ _ _
theorem or_bit (a b c d i : Nat) : bitM (a ||| c) (b ||| d) i = (bitM a b i || bitM c d i) := by
  unfold bitM; split <;> exact Nat.testBit_or _ _ _
theorem zero_bit (i : Nat) : bitM 0 0 i = false := by unfold bitM; split <;> exact Nat.zero_testBit _
def fstA (k : Nat) : Nat := 2 ^ (min k 64) - 1
def fstB (k : Nat) : Nat := 2 ^ (k - 64) - 1
theorem fst_lt {j : Nat} (h : j ≤ 64) : 2 ^ j - 1 < 18446744073709551616 := by
  have : (2 : Nat) ^ j ≤ 2 ^ 64 := Nat.pow_le_pow_right (by decide) h
  have : 0 < (2 : Nat) ^ j := Nat.pow_pos (by decide)
  rw [two64]; omega
theorem fst_bit (k i : Nat) (hk : k ≤ 128) (hi : i < 128) : bitM (fstA k) (fstB k) i = decide (i < k) := by
  unfold bitM fstA fstB
  by_cases h : i < 64
  · rw [if_pos h, Nat.testBit_two_pow_sub_one]; apply decide_eq_decide.2; omega
  · rw [if_neg h, Nat.testBit_two_pow_sub_one]; apply decide_eq_decide.2; omega
def majB (a b k : Nat) : Bool := decide (1 ≤ k) && decide (k < 2 * popM (a &&& fstA k) (b &&& fstB k))
end Go.Proofs.YtjmkecaljkcoiaaGreatDoor
