/-
  A region that draws its order, whose operations read what is old, and whose callees answer values and make new memory at most: one walk in the order of the text.
-/
import Derived.BigQuiet
import Derived.Deep.RegionHeld3
import Derived.Test.YtdmihbicpjmgjaaQOpenF
import Derived.Outline
import Derived.Deep.QuietTactic
import Derived.WalkSpells
import Derived.Test.YtdmihbicpjmgjaaQRowE
namespace Go.Proofs.Ytdmihbicpjmgjaa
open Go.RowKit
/-- The worlds behind w0 in which what was there is as it was. -/
def Later (w0 : World) : Type := { v : World // Below w0.heap.size w0 v }
instance later_nonempty (w0 : World) : Nonempty (Later w0) := ⟨⟨w0, Below.refl _ _⟩⟩
def Later.w {w0 : World} (x : Later w0) : World := x.1
theorem Later.below {w0 : World} (x : Later w0) : Below w0.heap.size w0 x.w := x.2
theorem Later.cell {w0 : World} {b o : Nat} {v : Value} (h : w0.cell? ⟨b, o, none⟩ = some v) : ∀ x : Later w0, x.w.cell? ⟨b, o, none⟩ = some v :=
  fun x => (x.2.cell (World.block_lt_of_cell? w0 _ h)).trans h
theorem Later.cellAt {w0 : World} {a : Addr} {v : Value} (h : w0.cell? a = some v) : ∀ x : Later w0, x.w.cell? a = some v :=
  fun x => (x.2.cell (World.block_lt_of_cell? w0 _ h)).trans h
theorem calm_of {P : Program} {f : FuncId} {args : Array Value} {w0 : World} {x : Later w0} {v : Value}
    (h : Calls P f args x.w fun e w' => e = .returned v ∧ Below x.w.heap.size x.w w') : Calls P f args x.w fun e w'' => e = .returned v ∧ ∃ y : Later w0, w'' = y.w :=
  h.mono fun _ w' ⟨he, hb⟩ => ⟨he, ⟨w', x.2.trans (hb.mono x.2.size)⟩, rfl⟩
theorem calm_same {P : Program} {f : FuncId} {args : Array Value} {w0 : World} {x : Later w0} {v : Value}
    (h : Calls P f args x.w fun e w' => e = .returned v ∧ x.w = w') : Calls P f args x.w fun e w'' => e = .returned v ∧ ∃ y : Later w0, w'' = y.w :=
  h.mono fun _ _ ⟨he, hb⟩ => ⟨he, x, hb.symm⟩
theorem calm_drawn {P : Program} {f : FuncId} {args : Array Value} {w0 : World} {x : Later w0} {v : Value}
    (h : Calls P f args x.w fun e w' => e = .returned v ∧ Drawn x.w w') : Calls P f args x.w fun e w'' => e = .returned v ∧ ∃ y : Later w0, w'' = y.w :=
  h.mono fun _ w' ⟨he, k, hk⟩ => ⟨he, ⟨w', by rw [hk]; exact below_drewN x.2 k⟩, rfl⟩
theorem wp_region_calm {P : Program} {id : Nat} {Q : Exit → Act → World → Prop} {a : Act} {w : World} {l : List Oper} (hm : P.follows .mixedOrders = true) (hB : Region.lexB .any l.toArray = true)
    (h : wpQuiet P l.toArray (fun w' => ∃ x : Later w, w' = x.w) (fun a' => ∀ w', (∃ x : Later w, w' = x.w) → Q .normal a' w') l a) : (Code.region id l.toArray true).wp P Q a w :=
  wp_region_quiet (C := fun w' => ∃ x : Later w, w' = x.w) hm hB ⟨⟨w.drew, (Below.refl _ _).drew⟩, rfl⟩ (by simpa using h)
end Go.Proofs.Ytdmihbicpjmgjaa
namespace Go.Proofs.Ytdmihbicpjmgjaa
open Go.RowKit
set_option linter.unusedVariables false
set_option linter.unusedSimpArgs false

/-- A process as a value. -/
def aheadB (i c j d : Nat) : Bool := decide (i * 4294967296 + c < j * 4294967296 + d)
theorem aheadB_eq (i c j d : Nat) (hc : c < 4294967296) (hd : d < 4294967296) : aheadB i c j d = if i = j then decide (c < d) else decide (i < j) := by
  unfold aheadB
  by_cases h : i = j
  · subst h; rw [if_pos rfl]; congr 1; apply propext; omega
  · rw [if_neg h]; congr 1; apply propext; omega
def beforeB (r i c s j d : Nat) : Bool := if r = s then aheadB i c j d else decide (r < s)
theorem or_join (k x y : Nat) (hy : y < 2 ^ k) : x * 2 ^ k ||| y = x * 2 ^ k + y := by
  rw [Nat.mul_comm, Nat.two_pow_add_eq_or_of_lt hy]
theorem or_32 (x y : Nat) (hx : x < 65536) (hy : y < 4294967296) : bits .or .u64 ((x : Int) * 4294967296) (y : Int) = ((x * 4294967296 + y : Nat) : Int) := by
  have h1 : ((x : Int) * 4294967296) = ((x * 4294967296 : Nat) : Int) := by omega
  rw [h1]
  show IntKind.u64.wrap ((BitVec.ofInt 64 ((x * 4294967296 : Nat) : Int) ||| BitVec.ofInt 64 (y : Int)).toNat : Int) = _
  rw [BitVec.toNat_or, BitVec.ofInt_natCast, BitVec.ofInt_natCast, BitVec.toNat_ofNat, BitVec.toNat_ofNat, Nat.mod_eq_of_lt (by omega), Nat.mod_eq_of_lt (by omega), or_join 32 _ _ (by omega), IntKind.wrap_u64]
  omega

end Go.Proofs.Ytdmihbicpjmgjaa
namespace Go.Proofs.Ytdmihbicpjmgjaa
open Go.RowKit
set_option linter.unusedVariables false
set_option linter.unusedSimpArgs false

/-- A process. -/
structure Pr where
  i : Nat
  k : Nat
  hi : i < 65536
  hk : k < 4294967296
theorem Pr.ext {p q : Pr} (h : p.i = q.i) (h' : p.k = q.k) : p = q := by
  cases p; cases q; simp only at h h'; subst h; subst h'; rfl
instance : DecidableEq Pr := fun p q => if h : p.i = q.i ∧ p.k = q.k then isTrue (Pr.ext h.1 h.2) else isFalse (fun e => h (by rw [e]; exact ⟨rfl, rfl⟩))
instance : Inhabited Pr := ⟨⟨0, 0, by decide, by decide⟩⟩
/-- Its number. -/
def Pr.num (p : Pr) : Nat := p.i * 4294967296 + p.k
theorem Pr.num_inj {p q : Pr} (h : p.num = q.num) : p = q := by
  have h1 := p.hk; have h2 := q.hk
  unfold Pr.num at h
  exact Pr.ext (by omega) (by omega)
def Pr.ahead (p q : Pr) : Bool := decide (p.num < q.num)
theorem Pr.ahead_eq (p q : Pr) : aheadB p.i p.k q.i q.k = p.ahead q := rfl
/-- Its two cells. -/
def prC (p : Pr) : List Value := [.int .u16 (p.i : Int), .int .u32 (p.k : Int)]
theorem prOk : EncOk prC 2 := ⟨fun _ => rfl, fun p v hv => by simp [prC] at hv; rcases hv with rfl | rfl <;> rfl, by decide⟩
theorem info_pid : (Try.prog.info? 25).map (fun i => (i.zero, i.size, i.bytes)) = some (some (.agg #[.int .u16 0, .int .u32 0]), 2, 8) := by kernel_rfl
abbrev OwnP (w : World) (base : Nat) (v : Value) (n : Nat) (l : List Pr) : Prop := OwnE 25 prC 2 w base v n l

/-- A row of processes that came in. -/
def Ps0 (w : World) (A : Option Addr) (n c : Nat) (l : List Pr) : Prop := Es prC w w.heap.size A n l ∧ n ≤ c ∧ c ≤ maxLen
theorem pids_row {w : World} {cs : List Value} {A : Option Addr} {n c : Nat} (h : cs = [.slice none 0 0] ∨ ∃ (a : Addr) (len cap : Nat), cs = [.slice (some a) len cap] ∧ len ≤ cap ∧ cap ≤ maxLen ∧
      ∀ i, i < len → ∃ j d : Nat, w.cell? (a.add (i * 2)) = some (.int .u16 (j : Int)) ∧ w.cell? (a.add (i * 2 + 1)) = some (.int .u32 (d : Int)) ∧ j < 65536 ∧ d < 4294967296) (he : (Value.slice A n c).cells.toList = cs) :
    ∃ l, Ps0 w A n c l := by
  simp [Value.cells] at he
  subst he
  rcases h with h | ⟨a, len, cap, h, hl, hm, hc⟩
  · simp only [List.cons.injEq, and_true, Value.slice.injEq] at h
    obtain ⟨rfl, rfl, rfl⟩ := h
    exact ⟨[], Es.none_, Nat.le_refl _, by decide⟩
  · simp only [List.cons.injEq, and_true, Value.slice.injEq] at h
    obtain ⟨rfl, rfl, rfl⟩ := h
    have hall : ∀ m, m ≤ n → ∃ l : List Pr, l.length = m ∧ ∀ j v, (ec prC l)[j]? = some v → w.cell? (a.add j) = some v := by
      intro m
      induction m with
      | zero => intro _; exact ⟨[], rfl, fun j v hv => by simp [ec] at hv⟩
      | succ m ih =>
        intro hmn
        obtain ⟨l, hl1, hl2⟩ := ih (by omega)
        obtain ⟨j, d, h1, h2, hj, hd⟩ := hc m (by omega)
        refine ⟨l ++ [⟨j, d, hj, hd⟩], by simp [hl1], fun x v hv => ?_⟩
        rw [ec_append, ec_one] at hv
        by_cases hx : x < (ec prC l).length
        · rw [List.getElem?_append_left hx] at hv
          exact hl2 x v hv
        · rw [List.getElem?_append_right (by omega), ec_len prOk, hl1] at hv
          rw [ec_len prOk, hl1] at hx
          have hlt : x - m * 2 < 2 := (List.getElem?_eq_some_iff.1 hv).1
          obtain hx0 | hx1 : x = m * 2 ∨ x = m * 2 + 1 := by omega
          · subst hx0
            simp [prC] at hv
            rw [h1, hv]
          · subst hx1
            simp [prC] at hv
            rw [h2, hv]
    obtain ⟨l, hl1, hl2⟩ := hall n (Nat.le_refl _)
    refine ⟨l, ⟨hl1, fun hn => ⟨a, rfl, ?_, hl2⟩⟩, hl, hm⟩
    obtain ⟨j, d, h1, _⟩ := hc 0 hn
    have := World.block_lt_of_cell? w _ h1
    rwa [block_of_add] at this

/-- An element's two cells, as the walk spells them. -/
theorem pr_at {w : World} {ad : Addr} {j : Nat} {q : Pr} (hc : ∀ i v, (prC q)[i]? = some v → w.cell? (ad.add (j * 2 + i)) = some v) :
    w.cell? (ad.add (j * 2)) = some (.int .u16 (q.i : Int)) ∧ w.cell? ⟨(ad.add (j * 2)).block, (ad.add (j * 2)).off + 1, none⟩ = some (.int .u32 (q.k : Int)) := by
  refine ⟨hc 0 _ rfl, ?_⟩
  have h := hc 1 _ rfl
  rw [← add_of_add] at h
  exact h
/-- Not among the first j. -/
def NotIn (p : Pr) (l : List Pr) (j : Nat) : Prop := p ∉ l.take j
theorem NotIn.start (p : Pr) (l : List Pr) : NotIn p l 0 := by simp [NotIn]
theorem NotIn.step {p : Pr} {l : List Pr} {j : Nat} (h : NotIn p l j) (hj : j < l.length) (hne : l[j] ≠ p) : NotIn p l (j + 1) := by
  unfold NotIn
  rw [List.take_succ_eq_append_getElem hj, List.mem_append, List.mem_singleton]
  exact fun h' => h'.elim h (fun e => hne e.symm)
theorem NotIn.done {p : Pr} {l : List Pr} {j : Nat} (h : NotIn p l j) (hj : l.length ≤ j) : decide (p ∈ l) = false := by
  unfold NotIn at h
  rw [List.take_of_length_le hj] at h
  exact decide_eq_false h
/-- Alike as far as j. -/
def SameTo (l m : List Pr) (j : Nat) : Prop := l.take j = m.take j
theorem SameTo.step {l m : List Pr} {j : Nat} (h : SameTo l m j) (h1 : j < l.length) (h2 : j < m.length) (he : l[j] = m[j]) : SameTo l m (j + 1) := by
  unfold SameTo at *
  rw [List.take_succ_eq_append_getElem h1, List.take_succ_eq_append_getElem h2, h, he]
theorem SameTo.done {l m : List Pr} {j : Nat} (h : SameTo l m j) (h1 : l.length ≤ j) (h2 : m.length ≤ j) : l = m := by
  unfold SameTo at h
  rwa [List.take_of_length_le h1, List.take_of_length_le h2] at h
set_option maxRecDepth 100000 in
theorem samep_any (A A' : Option Addr) (n m c c' : Nat) (l l' : List Pr) (B B' : Nat) (w : World) (hA : Es prC w B A n l) (hA' : Es prC w B' A' m l') (hn : n ≤ maxLen) (hm : m ≤ maxLen) :
    Calls Try.prog 77 #[.slice A n c, .slice A' m c'] w fun e w' => e = .returned (.bool (decide (l = l'))) ∧ Drawn w w' := by
  unfold maxLen at hn hm
  have hlen := hA.len
  have hlen' := hA'.len
  obtain ⟨r, hr⟩ : ∃ r, r = decide (l = l') := ⟨_, rfl⟩
  rw [← hr]
  by_cases hnm : n = m
  · subst hnm
    have HL := hide hlen
    have HL' := hide hlen'
    have HR := hide hr
    clear hlen hlen' hr
    have h0 : SameTo l l' 0 := by simp [SameTo]
    go_enter Try.func77, Try.ntmps77
    go_wp2
    go_loopw [5] (fun i wr => ∃ j : Nat, j ≤ n ∧ i = .int .i64 j ∧ SameTo l l' j ∧ Drawn w wr) (fun i _ => n - (intOf i).toNat)
    case atStart => exact ⟨0, Nat.zero_le _, rfl, h0, Drawn.refl _⟩
    case round =>
      obtain ⟨j, hj, rfl, hsame, hd⟩ := hrel
      obtain ⟨n0, rfl⟩ := hd
      by_cases hlt : j < n
      · obtain ⟨ad, hl, rfl, hbl, hc⟩ := hA.at_ prOk hlt
        obtain ⟨ad', hl', rfl, hbl', hc'⟩ := hA'.at_ prOk hlt
        obtain ⟨q, hq⟩ : ∃ q, q = l[j] := ⟨_, rfl⟩
        obtain ⟨p, hp⟩ : ∃ p, p = l'[j] := ⟨_, rfl⟩
        rw [← hq] at hc
        rw [← hp] at hc'
        obtain ⟨c0, c1⟩ := pr_at hc
        obtain ⟨d0, d1⟩ := pr_at hc'
        have HQ := hide hq
        have HP := hide hp
        clear hc hq hc' hp
        have z1 : (0 : Int) ≤ (j : Int) := by omega
        have z2 : (j : Int) < (n : Int) := by omega
        by_cases hqi : q.i = p.i
        · by_cases hqk : q.k = p.k
          · have hst := hsame.step hl hl' (by rw [← HQ.out, ← HP.out]; exact Pr.ext hqi hqk)
            rw [hqi] at c0
            rw [hqk] at c1
            clear hqi hqk
            go_wp2_with fail
            go_quiet (fail)
            go_wp2
            go_roundw
            case rel => exact ⟨j + 1, by omega, by go_num, hst, (by first | exact drawn_one _ _ | exact drawn_two _ _ _)⟩
            case measure => simp [intOf]; omega
          · have hf : decide (l = l') = false := decide_eq_false (fun e => hqk (by rw [HQ.out, HP.out]; subst e; rfl))
            have HI := hide (HR.out.trans hf)
            have q3 : ¬ ((q.k : Int) = (p.k : Int)) := by omega
            rw [hqi] at c0
            clear hqi hqk hf
            go_wp2_with fail
            go_quiet (fail)
            go_wp2
            go_ret
            exact ⟨ret_bool HI.out.symm, (by first | exact drawn_one _ _ | exact drawn_two _ _ _)⟩
        · have hf : decide (l = l') = false := decide_eq_false (fun e => hqi (by rw [HQ.out, HP.out]; subst e; rfl))
          have HI := hide (HR.out.trans hf)
          have q3 : ¬ ((q.i : Int) = (p.i : Int)) := by omega
          clear hqi hf
          go_wp2_with fail
          go_quiet (fail)
          go_wp2
          go_ret
          exact ⟨ret_bool HI.out.symm, (by first | exact drawn_one _ _ | exact drawn_two _ _ _)⟩
      · have hf : decide (l = l') = true := decide_eq_true (hsame.done (by rw [HL.out]; omega) (by rw [HL'.out]; omega))
        have HI := hide (HR.out.trans hf)
        clear hf
        go_wp2
        go_ret
        exact ⟨ret_bool HI.out.symm, drawn_one _ _⟩
  · have hf : decide (l = l') = false := decide_eq_false (fun e => hnm (by rw [← hlen, ← hlen', e]))
    have HI := hide (hr.trans hf)
    have hne : ((n : Int) != (m : Int)) = true := by simp; omega
    clear hf hr hlen hlen'
    go_enter Try.func77, Try.ntmps77
    go_wp2
    go_ret
    exact ⟨ret_bool HI.out.symm, Drawn.refl _⟩
theorem samep_eq (A A' : Option Addr) (n m c c' : Nat) (l l' : List Pr) (B B' : Nat) (w : World) (hA : Es prC w B A n l) (hA' : Es prC w B' A' m l') (hn : n ≤ maxLen) (he : l = l') :
    Calls Try.prog 77 #[.slice A n c, .slice A' m c'] w fun e w' => e = .returned (.bool true) ∧ Drawn w w' :=
  (samep_any A A' n m c c' l l' B B' w hA hA' hn (by rw [← hA'.len, ← he, hA.len]; exact hn)).mono fun _ _ ⟨h1, h2⟩ => ⟨by rw [h1, decide_eq_true he], h2⟩
end Go.Proofs.Ytdmihbicpjmgjaa
namespace Go.Proofs.Ytdmihbicpjmgjaa
set_option linter.unusedVariables false

/-- Each once, in the order of their coming. -/
def dedS (acc : List Pr) (p : Pr) : List Pr := if p ∈ acc then acc else acc ++ [p]
def dedup (l : List Pr) : List Pr := l.foldl dedS []
/-- Laid in ahead of the first one that isn't ahead of it. -/
def insP (p : Pr) : List Pr → List Pr
  | [] => [p]
  | q :: r => if q.ahead p then q :: insP p r else p :: q :: r
/-- How many are ahead of it, from the front on. -/
def posF (p : Pr) : List Pr → Nat
  | [] => 0
  | q :: r => if q.ahead p then posF p r + 1 else 0
def insS (acc : List Pr) (p : Pr) : List Pr := if p ∈ acc then acc else insP p acc
/-- Processes, each once, those that are ahead first. -/
def sortP (l : List Pr) : List Pr := l.foldl insS []
theorem insP_pos (p : Pr) (l : List Pr) : l.take (posF p l) ++ p :: l.drop (posF p l) = insP p l := by
  induction l with
  | nil => rfl
  | cons q r ih =>
    unfold posF insP
    split
    · simp [ih]
    · simp
theorem posF_le (p : Pr) (l : List Pr) : posF p l ≤ l.length := by
  induction l with
  | nil => exact Nat.le_refl _
  | cons q r ih => unfold posF; split <;> simp; omega
/-- So far is the search. -/
def PosTo (p : Pr) (l : List Pr) (a : Nat) : Prop := posF p l = a + posF p (l.drop a)
theorem PosTo.start (p : Pr) (l : List Pr) : PosTo p l 0 := by simp [PosTo]
theorem PosTo.step {p : Pr} {l : List Pr} {a : Nat} (h : PosTo p l a) (ha : a < l.length) (hh : l[a].ahead p = true) : PosTo p l (a + 1) := by
  unfold PosTo at *
  rw [List.drop_eq_getElem_cons ha, posF, if_pos hh] at h
  omega
theorem PosTo.stop {p : Pr} {l : List Pr} {a : Nat} (h : PosTo p l a) (ha : a < l.length) (hh : l[a].ahead p = false) : posF p l = a := by
  unfold PosTo at *
  rw [List.drop_eq_getElem_cons ha, posF, if_neg (by simp [hh])] at h
  omega
theorem PosTo.end_ {p : Pr} {l : List Pr} {a : Nat} (h : PosTo p l a) (ha : l.length ≤ a) : posF p l = a := by
  unfold PosTo at *
  rw [List.drop_eq_nil_of_le ha, posF] at h
  omega

theorem or_three {A B C : Prop} : (A ∨ B ∨ C) ↔ ((B ∨ A) ∨ C) := ⟨fun h => h.elim (fun a => .inl (.inr a)) (fun h => h.elim (fun b => .inl (.inl b)) .inr), fun h => h.elim (fun h => h.elim (fun b => .inr (.inl b)) .inl) (fun c => .inr (.inr c))⟩
/-- Rising. -/
abbrev Rising (l : List Pr) : Prop := l.Pairwise fun p q => p.num < q.num
theorem mem_insP (p x : Pr) (l : List Pr) : x ∈ insP p l ↔ x = p ∨ x ∈ l := by
  induction l with
  | nil => simp [insP]
  | cons q r ih =>
    unfold insP
    split
    · rw [List.mem_cons, ih, List.mem_cons]; constructor <;> (intro h; rcases h with h | h | h <;> simp [h])
    · simp
theorem rising_insP (p : Pr) (l : List Pr) (h : Rising l) (hp : p ∉ l) : Rising (insP p l) := by
  induction l with
  | nil => simp [insP, Rising]
  | cons q r ih =>
    rw [Rising, List.pairwise_cons] at h
    unfold insP
    split
    · rename_i ha
      have ha' : q.num < p.num := of_decide_eq_true ha
      refine List.pairwise_cons.2 ⟨fun x hx => ?_, ih h.2 (fun e => hp (List.mem_cons_of_mem _ e))⟩
      rcases (mem_insP p x r).1 hx with rfl | hx
      · exact ha'
      · exact h.1 x hx
    · rename_i ha
      have ha' : ¬ q.num < p.num := fun e => ha (decide_eq_true e)
      have hne : p.num ≠ q.num := fun e => hp (by rw [Pr.num_inj e]; exact List.mem_cons_self ..)
      refine List.pairwise_cons.2 ⟨fun x hx => ?_, List.pairwise_cons.2 h⟩
      rcases List.mem_cons.1 hx with rfl | hx
      · omega
      · have := h.1 x hx; omega
theorem insS_spec (acc : List Pr) (p : Pr) (h : Rising acc) : Rising (insS acc p) ∧ ∀ x, x ∈ insS acc p ↔ x = p ∨ x ∈ acc := by
  unfold insS
  split
  · rename_i hp
    exact ⟨h, fun x => ⟨.inr, fun e => e.elim (fun e => e ▸ hp) id⟩⟩
  · rename_i hp
    exact ⟨rising_insP p acc h hp, fun x => mem_insP p x acc⟩
theorem sortP_fold (l acc : List Pr) (h : Rising acc) : Rising (l.foldl insS acc) ∧ ∀ x, x ∈ l.foldl insS acc ↔ x ∈ l ∨ x ∈ acc := by
  induction l generalizing acc with
  | nil => exact ⟨h, fun x => by simp⟩
  | cons p r ih =>
    obtain ⟨h1, h2⟩ := insS_spec acc p h
    obtain ⟨h3, h4⟩ := ih _ h1
    exact ⟨h3, fun x => by rw [List.foldl_cons, h4, h2, List.mem_cons]; exact or_three⟩
theorem sortP_rising (l : List Pr) : Rising (sortP l) := (sortP_fold l [] List.Pairwise.nil).1
theorem mem_sortP (l : List Pr) (x : Pr) : x ∈ sortP l ↔ x ∈ l := by
  have := (sortP_fold l [] List.Pairwise.nil).2 x
  simpa [sortP] using this
theorem rising_ext : ∀ (l m : List Pr), Rising l → Rising m → (∀ x, x ∈ l ↔ x ∈ m) → l = m
  | [], [], _, _, _ => rfl
  | [], q :: r, _, _, h => absurd ((h q).2 (List.mem_cons_self ..)) (by simp)
  | p :: r, [], _, _, h => absurd ((h p).1 (List.mem_cons_self ..)) (by simp)
  | p :: r, q :: s, h1, h2, h => by
    have h1' := List.pairwise_cons.1 h1
    have h2' := List.pairwise_cons.1 h2
    have e : p = q := by
      rcases List.mem_cons.1 ((h p).1 (List.mem_cons_self ..)) with e | e
      · exact e
      · rcases List.mem_cons.1 ((h q).2 (List.mem_cons_self ..)) with e' | e'
        · exact e'.symm
        · have a := h2'.1 p e
          have b := h1'.1 q e'
          omega
    subst e
    rw [rising_ext r s h1'.2 h2'.2 fun x => ?_]
    constructor
    · intro hx
      rcases List.mem_cons.1 ((h x).1 (List.mem_cons_of_mem _ hx)) with e | e
      · subst e; exact absurd (h1'.1 x hx) (by omega)
      · exact e
    · intro hx
      rcases List.mem_cons.1 ((h x).2 (List.mem_cons_of_mem _ hx)) with e | e
      · subst e; exact absurd (h2'.1 x hx) (by omega)
      · exact e
theorem sortP_len (l : List Pr) : (sortP l).length ≤ l.length := by
  have hg : ∀ (l acc : List Pr), (l.foldl insS acc).length ≤ acc.length + l.length := by
    intro l
    induction l with
    | nil => intro acc; simp
    | cons p r ih =>
      intro acc
      have h1 : (insS acc p).length ≤ acc.length + 1 := by
        unfold insS
        split
        · omega
        · rw [← insP_pos, List.length_append, List.length_cons, List.length_take, List.length_drop]; omega
      have := ih (insS acc p)
      rw [List.foldl_cons, List.length_cons]
      omega
  have := hg l []
  simpa [sortP] using this
theorem sortP_snoc (l : List Pr) (p : Pr) : sortP (l ++ [p]) = insS (sortP l) p := by simp [sortP]
theorem dedup_snoc (l : List Pr) (p : Pr) : dedup (l ++ [p]) = dedS (dedup l) p := by simp [dedup]
theorem dedup_fold (l acc : List Pr) (h : acc.Nodup) : (l.foldl dedS acc).Nodup ∧ ∀ x, x ∈ l.foldl dedS acc ↔ x ∈ l ∨ x ∈ acc := by
  induction l generalizing acc with
  | nil => exact ⟨h, fun x => by simp⟩
  | cons p r ih =>
    have h1 : (dedS acc p).Nodup ∧ ∀ x, x ∈ dedS acc p ↔ x = p ∨ x ∈ acc := by
      unfold dedS
      split
      · rename_i hp
        exact ⟨h, fun x => ⟨.inr, fun e => e.elim (fun e => e ▸ hp) id⟩⟩
      · rename_i hp
        refine ⟨List.nodup_append.2 ⟨h, by simp, fun a ha b hb => ?_⟩, fun x => by rw [List.mem_append, List.mem_singleton, or_comm]⟩
        rw [List.mem_singleton] at hb
        subst hb
        exact fun e => hp (e ▸ ha)
    obtain ⟨h3, h4⟩ := ih _ h1.1
    exact ⟨h3, fun x => by rw [List.foldl_cons, h4, h1.2, List.mem_cons]; exact or_three⟩
theorem dedup_nodup (l : List Pr) : (dedup l).Nodup := (dedup_fold l [] List.nodup_nil).1
theorem mem_dedup (l : List Pr) (x : Pr) : x ∈ dedup l ↔ x ∈ l := by
  have := (dedup_fold l [] List.nodup_nil).2 x
  simpa [dedup] using this
theorem dedup_len (l : List Pr) : (dedup l).length ≤ l.length := by
  have hg : ∀ (l acc : List Pr), (l.foldl dedS acc).length ≤ acc.length + l.length := by
    intro l
    induction l with
    | nil => intro acc; simp
    | cons p r ih =>
      intro acc
      have h1 : (dedS acc p).length ≤ acc.length + 1 := by unfold dedS; split <;> simp
      have := ih (dedS acc p)
      rw [List.foldl_cons, List.length_cons]
      omega
  have := hg l []
  simpa [dedup] using this
/-- Sorted by their numbers, whatever sorts them. -/
theorem sorted_is (l m : List Pr) (hp : m.Perm (dedup l)) (hs : m.Pairwise fun x y => (!decide (y.num < x.num)) = true) : m = sortP l := by
  refine rising_ext _ _ ?_ (sortP_rising l) fun x => by rw [hp.mem_iff, mem_dedup, mem_sortP]
  have hn : m.Nodup := (hp.nodup_iff).2 (dedup_nodup l)
  refine (hs.and hn).imp fun {x y} ⟨h1, h2⟩ => ?_
  have h3 : ¬ y.num < x.num := by simpa using h1
  have h4 : x.num ≠ y.num := fun e => h2 (Pr.num_inj e)
  omega
theorem merge_is (l : List Pr) : ((dedup l).mergeSort fun x y => !decide (y.num < x.num)) = sortP l :=
  sorted_is l _ (List.mergeSort_perm _ _) (List.pairwise_mergeSort (fun a b c h1 h2 => by simp at *; omega) (fun a b => by simp; omega) _)
open Go.RowKit
/-- New memory that holds m. -/
def MakesP (w : World) (m : List Pr) (e : Ending) (w' : World) : Prop :=
  ∃ A c, e = .returned (.slice A m.length c) ∧ OwnP w' w.heap.size (.slice A m.length c) m.length m ∧ Below w.heap.size w w'
theorem es_lit (w : World) (q : Pr) (T : TypeId) : Es prC (w.alloc (.cells #[.int .u16 (q.i : Int), .int .u32 (q.k : Int)] T)) (w.heap.size + 1) (some ⟨w.heap.size, 0, none⟩) 1 [q] := by
  refine ⟨rfl, fun _ => ⟨_, rfl, Nat.lt_succ_self _, fun j v hv => ?_⟩⟩
  rw [ec_one] at hv
  have hj : j < 2 := (List.getElem?_eq_some_iff.1 hv).1
  obtain rfl | rfl : j = 0 ∨ j = 1 := by omega
  · simp [prC] at hv
    subst hv
    exact cell_of_row _ _ 0 _ T (0, 0) (heap_alloc_new w _)
  · simp [prC] at hv
    subst hv
    exact cell_of_row _ _ 1 _ T (0, 0) (heap_alloc_new w _)
end Go.Proofs.Ytdmihbicpjmgjaa
