import Derived.BigQuiet
import Derived.Deep.RegionHeld3
import Derived.Test.YtjmkecaljkcoiaaGreatDoorQOpenF
import Derived.Outline
import Derived.Deep.QuietTactic
import Derived.WalkSpells
import Derived.Test.YtjmkecaljkcoiaaGreatDoorQRowE
namespace Go.Proofs.YtjmkecaljkcoiaaGreatDoor
open Go.RowKit
def Later (w0 : World) : Type := { v : World // Below w0.heap.size w0 v }
instance later_nonempty (w0 : World) : Nonempty (Later w0) := ⟨⟨w0, Below.refl _ _⟩⟩
def Later.w {w0 : World} (x : Later w0) : World := x.1
theorem Later.below {w0 : World} (x : Later w0) : Below w0.heap.size w0 x.w := x.2
theorem Later.cell {w0 : World} {b o : Nat} {v : Value} (h : w0.cell? ⟨b, o, none⟩ = some v) : ∀ x : Later w0, x.w.cell? ⟨b, o, none⟩ = some v :=
  fun x => (x.2.cell (World.block_lt_of_cell? w0 _ h)).trans h
theorem Later.cellAt {w0 : World} {a : Addr} {v : Value} (h : w0.cell? a = some v) : ∀ x : Later w0, x.w.cell? a = some v :=
  fun x => (x.2.cell (World.block_lt_of_cell? w0 _ h)).trans h
theorem calm_of {P : Program} {f : FuncId} {args : Array Value} {w0 : World} {x : Later w0} {v : Value}
    (h : Calls P f args x.w fun e w' => e = .returned v ∧ Below x.w.heap.size x.w w') : Calls P f args x.w fun e w'' => e = .returned v ∧ ∃ y : Later w0, w'' = y.w :=
  h.mono fun _ w' ⟨he, hb⟩ => ⟨he, ⟨w', x.2.trans (hb.mono x.2.size)⟩, rfl⟩
theorem calm_same {P : Program} {f : FuncId} {args : Array Value} {w0 : World} {x : Later w0} {v : Value}
    (h : Calls P f args x.w fun e w' => e = .returned v ∧ x.w = w') : Calls P f args x.w fun e w'' => e = .returned v ∧ ∃ y : Later w0, w'' = y.w :=
  h.mono fun _ _ ⟨he, hb⟩ => ⟨he, x, hb.symm⟩
theorem calm_drawn {P : Program} {f : FuncId} {args : Array Value} {w0 : World} {x : Later w0} {v : Value}
    (h : Calls P f args x.w fun e w' => e = .returned v ∧ Drawn x.w w') : Calls P f args x.w fun e w'' => e = .returned v ∧ ∃ y : Later w0, w'' = y.w :=
  h.mono fun _ w' ⟨he, k, hk⟩ => ⟨he, ⟨w', by rw [hk]; exact below_drewN x.2 k⟩, rfl⟩
theorem wp_region_calm {P : Program} {id : Nat} {Q : Exit → Act → World → Prop} {a : Act} {w : World} {l : List Oper} (hm : P.follows .mixedOrders = true) (hB : Region.lexB .any l.toArray = true)
    (h : wpQuiet P l.toArray (fun w' => ∃ x : Later w, w' = x.w) (fun a' => ∀ w', (∃ x : Later w, w' = x.w) → Q .normal a' w') l a) : (Code.region id l.toArray true).wp P Q a w :=
  wp_region_quiet (C := fun w' => ∃ x : Later w, w' = x.w) hm hB ⟨⟨w.drew, (Below.refl _ _).drew⟩, rfl⟩ (by simpa using h)
end Go.Proofs.YtjmkecaljkcoiaaGreatDoor
namespace Go.Proofs.YtjmkecaljkcoiaaGreatDoor
open Go.RowKit
set_option linter.unusedVariables false
set_option linter.unusedSimpArgs false
def aheadB (i c j d : Nat) : Bool := decide (i * 4294967296 + c < j * 4294967296 + d)
theorem aheadB_eq (i c j d : Nat) (hc : c < 4294967296) (hd : d < 4294967296) : aheadB i c j d = if i = j then decide (c < d) else decide (i < j) := by
  unfold aheadB
  by_cases h : i = j
  · subst h; rw [if_pos rfl]; congr 1; apply propext; omega
  · rw [if_neg h]; congr 1; apply propext; omega
def beforeB (r i c s j d : Nat) : Bool := if r = s then aheadB i c j d else decide (r < s)
theorem or_join (k x y : Nat) (hy : y < 2 ^ k) : x * 2 ^ k ||| y = x * 2 ^ k + y := by
  rw [Nat.mul_comm, Nat.two_pow_add_eq_or_of_lt hy]
theorem or_32 (x y : Nat) (hx : x < 65536) (hy : y < 4294967296) : bits .or .u64 ((x : Int) * 4294967296) (y : Int) = ((x * 4294967296 + y : Nat) : Int) := by
  have h1 : ((x : Int) * 4294967296) = ((x * 4294967296 : Nat) : Int) := by omega
  rw [h1]
  show IntKind.u64.wrap ((BitVec.ofInt 64 ((x * 4294967296 : Nat) : Int) ||| BitVec.ofInt 64 (y : Int)).toNat : Int) = _
  rw [BitVec.toNat_or, BitVec.ofInt_natCast, BitVec.ofInt_natCast, BitVec.toNat_ofNat, BitVec.toNat_ofNat, Nat.mod_eq_of_lt (by omega), Nat.mod_eq_of_lt (by omega), or_join 32 _ _ (by omega), IntKind.wrap_u64]
  omega
theorem pnum_any (i c : Nat) (w : World) (hi : i < 65536) (hc : c < 4294967296) :
    Calls Tryz.prog 216 #[.agg #[.int .u16 i, .int .u32 c]] w fun e w' => e = .returned (.int .u64 ((i * 4294967296 + c : Nat) : Int)) ∧ Below w.heap.size w w' := by
  go_enter Tryz.func216, Tryz.ntmps216
  go_wp2
  go_ret
  exact ⟨ret_int (or_32 i c hi hc), (Below.refl _ _).alloc (Nat.le_refl _) _⟩
set_option maxRecDepth 100000 in
theorem ahead_any (i c j d : Nat) (w : World) (hi : i < 65536) (hc : c < 4294967296) (hj : j < 65536) (hd : d < 4294967296) :
    Calls Tryz.prog 179 #[.agg #[.int .u16 i, .int .u32 c], .agg #[.int .u16 j, .int .u32 d]] w fun e w' => e = .returned (.bool (aheadB i c j d)) ∧ Below w.heap.size w w' := by
  obtain ⟨m, hm⟩ : ∃ m : Nat, m = i * 4294967296 + c := ⟨_, rfl⟩
  obtain ⟨n, hn⟩ : ∃ n : Nat, n = j * 4294967296 + d := ⟨_, rfl⟩
  have c1 := fun W => pnum_any i c W hi hc
  have c2 := fun W => pnum_any j d W hj hd
  rw [← hm] at c1
  rw [← hn] at c2
  have hr : aheadB i c j d = decide (m < n) := by rw [hm, hn]; rfl
  rw [hr]
  clear hr hm hn
  go_enter Tryz.func179, Tryz.ntmps179
  go_wp2
  have f0 : ((w.alloc (.cells #[.int .u16 i, .int .u32 c] 44)).alloc (.cells #[.int .u16 j, .int .u32 d] 44)).cell? ⟨w.heap.size, 0, none⟩ = some (.int .u16 i) := by go_simp
  have f1 : ((w.alloc (.cells #[.int .u16 i, .int .u32 c] 44)).alloc (.cells #[.int .u16 j, .int .u32 d] 44)).cell? ⟨w.heap.size, 1, none⟩ = some (.int .u32 c) := by go_simp
  have f2 : ((w.alloc (.cells #[.int .u16 i, .int .u32 c] 44)).alloc (.cells #[.int .u16 j, .int .u32 d] 44)).cell? ⟨w.heap.size + 1, 0, none⟩ = some (.int .u16 j) := by go_simp
  have f3 : ((w.alloc (.cells #[.int .u16 i, .int .u32 c] 44)).alloc (.cells #[.int .u16 j, .int .u32 d] 44)).cell? ⟨w.heap.size + 1, 1, none⟩ = some (.int .u32 d) := by go_simp
  have hb : Below w.heap.size w ((w.alloc (.cells #[.int .u16 i, .int .u32 c] 44)).alloc (.cells #[.int .u16 j, .int .u32 d] 44)) := ((Below.refl _ _).alloc (Nat.le_refl _) _).alloc (by simp) _
  generalize ((w.alloc (.cells #[.int .u16 i, .int .u32 c] 44)).alloc (.cells #[.int .u16 j, .int .u32 d] 44)) = w1 at f0 f1 f2 f3 hb ⊢
  have g0 := Later.cell f0
  have g1 := Later.cell f1
  have g2 := Later.cell f2
  have g3 := Later.cell f3
  clear f0 f1 f2 f3
  refine wp_region_calm (by kernel_rfl) (by kernel_rfl) ?_
  have k1 := fun x : Later w1 => calm_of (c1 x.w)
  have k2 := fun x : Later w1 => calm_of (c2 x.w)
  clear c1 c2
  repeat (go_big_quiet_step ((go_at_call 216; first | with_reducible exact k1 _ | with_reducible exact k2 _)))
  refine wpQuiet_nil ?_
  rintro _ ⟨x9, rfl⟩
  have hb9 := x9.below
  generalize x9.w = w9 at hb9 ⊢
  go_wp2
  go_ret
  exact ⟨rfl, hb.trans (hb9.mono hb.size)⟩
theorem rahead_any (i c j d : Nat) (w : World) (hi : i < 65536) (hc : c < 4294967296) (hj : j < 65536) (hd : d < 4294967296) :
    Calls Tryz.prog 124 #[.agg #[.int .u16 i, .int .u32 c], .agg #[.int .u16 j, .int .u32 d]] w fun e w' => e = .returned (.bool (aheadB i c j d)) ∧ Below w.heap.size w w' := by
  by_cases h : i = j
  · subst h
    have hr : aheadB i c i d = decide (c < d) := by rw [aheadB_eq _ _ _ _ hc hd, if_pos rfl]
    rw [hr]
    clear hr
    go_enter Tryz.func124, Tryz.ntmps124
    go_wp2
    go_ret
    exact ⟨rfl, ((Below.refl _ _).alloc (Nat.le_refl _) _).alloc (by simp) _⟩
  · have hr : aheadB i c j d = decide (i < j) := by rw [aheadB_eq _ _ _ _ hc hd, if_neg h]
    have hne : ((i : Int) != (j : Int)) = true := by simp; omega
    rw [hr]
    clear hr
    go_enter Tryz.func124, Tryz.ntmps124
    go_wp2
    go_ret
    exact ⟨rfl, ((Below.refl _ _).alloc (Nat.le_refl _) _).alloc (by simp) _⟩
end Go.Proofs.YtjmkecaljkcoiaaGreatDoor
namespace Go.Proofs.YtjmkecaljkcoiaaGreatDoor
open Go.RowKit
set_option linter.unusedVariables false
set_option linter.unusedSimpArgs false
structure Pr where
  i : Nat
  k : Nat
  hi : i < 65536
  hk : k < 4294967296
theorem Pr.ext {p q : Pr} (h : p.i = q.i) (h' : p.k = q.k) : p = q := by
  cases p; cases q; simp only at h h'; subst h; subst h'; rfl
instance : DecidableEq Pr := fun p q => if h : p.i = q.i ∧ p.k = q.k then isTrue (Pr.ext h.1 h.2) else isFalse (fun e => h (by rw [e]; exact ⟨rfl, rfl⟩))
instance : Inhabited Pr := ⟨⟨0, 0, by decide, by decide⟩⟩
def Pr.num (p : Pr) : Nat := p.i * 4294967296 + p.k
def Pr.ahead (p q : Pr) : Bool := decide (p.num < q.num)
def prC (p : Pr) : List Value := [.int .u16 p.i, .int .u32 p.k]
theorem prOk : EncOk prC 2 := ⟨fun _ => rfl, fun p v hv => by simp [prC] at hv; rcases hv with rfl | rfl <;> rfl, by decide⟩
theorem info_pid : (Tryz.prog.info? 44).map (fun i => (i.zero, i.size, i.bytes)) = some (some (.agg #[.int .u16 0, .int .u32 0]), 2, 8) := by kernel_rfl
abbrev OwnP (w : World) (base : Nat) (v : Value) (n : Nat) (l : List Pr) : Prop := OwnE 44 prC 2 w base v n l
def Ps0 (w : World) (A : Option Addr) (n c : Nat) (l : List Pr) : Prop := Es prC w w.heap.size A n l ∧ n ≤ c ∧ c ≤ maxLen
theorem pids_row {w : World} {cs : List Value} {A : Option Addr} {n c : Nat} (h : cs = [.slice none 0 0] ∨ ∃ (a : Addr) (len cap : Nat), cs = [.slice (some a) len cap] ∧ len ≤ cap ∧ cap ≤ maxLen ∧
      ∀ i, i < len → ∃ j d : Nat, w.cell? (a.add (i * 2)) = some (.int .u16 j) ∧ w.cell? (a.add (i * 2 + 1)) = some (.int .u32 d) ∧ j < 65536 ∧ d < 4294967296) (he : (Value.slice A n c).cells.toList = cs) :
    ∃ l, Ps0 w A n c l := by
  simp [Value.cells] at he
  subst he
  rcases h with h | ⟨a, len, cap, h, hl, hm, hc⟩
  · simp only [List.cons.injEq, and_true, Value.slice.injEq] at h
    obtain ⟨rfl, rfl, rfl⟩ := h
    exact ⟨[], Es.none_, Nat.le_refl _, by decide⟩
  · simp only [List.cons.injEq, and_true, Value.slice.injEq] at h
    obtain ⟨rfl, rfl, rfl⟩ := h
    have hall : ∀ m, m ≤ n → ∃ l : List Pr, l.length = m ∧ ∀ j v, (ec prC l)[j]? = some v → w.cell? (a.add j) = some v := by
      intro m
      induction m with
      | zero => intro _; exact ⟨[], rfl, fun j v hv => by simp [ec] at hv⟩
      | succ m ih =>
        intro hmn
        obtain ⟨l, hl1, hl2⟩ := ih (by omega)
        obtain ⟨j, d, h1, h2, hj, hd⟩ := hc m (by omega)
        refine ⟨l ++ [⟨j, d, hj, hd⟩], by simp [hl1], fun x v hv => ?_⟩
        rw [ec_append, ec_one] at hv
        by_cases hx : x < (ec prC l).length
        · rw [List.getElem?_append_left hx] at hv
          exact hl2 x v hv
        · rw [List.getElem?_append_right (by omega), ec_len prOk, hl1] at hv
          rw [ec_len prOk, hl1] at hx
          have hlt : x - m * 2 < 2 := (List.getElem?_eq_some_iff.1 hv).1
          obtain hx0 | hx1 : x = m * 2 ∨ x = m * 2 + 1 := by omega
          · subst hx0
            simp [prC] at hv
            rw [h1, hv]
          · subst hx1
            simp [prC] at hv
            rw [h2, hv]
    obtain ⟨l, hl1, hl2⟩ := hall n (Nat.le_refl _)
    refine ⟨l, ⟨hl1, fun hn => ⟨a, rfl, ?_, hl2⟩⟩, hl, hm⟩
    obtain ⟨j, d, h1, _⟩ := hc 0 hn
    have := World.block_lt_of_cell? w _ h1
    rwa [block_of_add] at this
theorem pr_at {w : World} {ad : Addr} {j : Nat} {q : Pr} (hc : ∀ i v, (prC q)[i]? = some v → w.cell? (ad.add (j * 2 + i)) = some v) :
    w.cell? (ad.add (j * 2)) = some (.int .u16 q.i) ∧ w.cell? ⟨(ad.add (j * 2)).block, (ad.add (j * 2)).off + 1, none⟩ = some (.int .u32 q.k) := by
  refine ⟨hc 0 _ rfl, ?_⟩
  have h := hc 1 _ rfl
  rw [← add_of_add] at h
  exact h
def NotIn (p : Pr) (l : List Pr) (j : Nat) : Prop := p ∉ l.take j
theorem NotIn.start (p : Pr) (l : List Pr) : NotIn p l 0 := by simp [NotIn]
theorem NotIn.step {p : Pr} {l : List Pr} {j : Nat} (h : NotIn p l j) (hj : j < l.length) (hne : l[j] ≠ p) : NotIn p l (j + 1) := by
  unfold NotIn
  rw [List.take_succ_eq_append_getElem hj, List.mem_append, List.mem_singleton]
  exact fun h' => h'.elim h (fun e => hne e.symm)
theorem NotIn.done {p : Pr} {l : List Pr} {j : Nat} (h : NotIn p l j) (hj : l.length ≤ j) : decide (p ∈ l) = false := by
  unfold NotIn at h
  rw [List.take_of_length_le hj] at h
  exact decide_eq_false h
def SameTo (l m : List Pr) (j : Nat) : Prop := l.take j = m.take j
theorem SameTo.step {l m : List Pr} {j : Nat} (h : SameTo l m j) (h1 : j < l.length) (h2 : j < m.length) (he : l[j] = m[j]) : SameTo l m (j + 1) := by
  unfold SameTo at *
  rw [List.take_succ_eq_append_getElem h1, List.take_succ_eq_append_getElem h2, h, he]
theorem SameTo.done {l m : List Pr} {j : Nat} (h : SameTo l m j) (h1 : l.length ≤ j) (h2 : m.length ≤ j) : l = m := by
  unfold SameTo at h
  rwa [List.take_of_length_le h1, List.take_of_length_le h2] at h
set_option maxRecDepth 100000 in
theorem samep_any (A A' : Option Addr) (n m c c' : Nat) (l l' : List Pr) (B B' : Nat) (w : World) (hA : Es prC w B A n l) (hA' : Es prC w B' A' m l') (hn : n ≤ maxLen) (hm : m ≤ maxLen) :
    Calls Tryz.prog 36 #[.slice A n c, .slice A' m c'] w fun e w' => e = .returned (.bool (decide (l = l'))) ∧ Drawn w w' := by
  unfold maxLen at hn hm
  have hlen := hA.len
  have hlen' := hA'.len
  obtain ⟨r, hr⟩ : ∃ r, r = decide (l = l') := ⟨_, rfl⟩
  rw [← hr]
  by_cases hnm : n = m
  · subst hnm
    have HL := hide hlen
    have HL' := hide hlen'
    have HR := hide hr
    clear hlen hlen' hr
    have h0 : SameTo l l' 0 := by simp [SameTo]
    go_enter Tryz.func36, Tryz.ntmps36
    go_wp2
    go_loopw [5] (fun i wr => ∃ j : Nat, j ≤ n ∧ i = .int .i64 j ∧ SameTo l l' j ∧ Drawn w wr) (fun i _ => n - (intOf i).toNat)
    case atStart => exact ⟨0, Nat.zero_le _, rfl, h0, Drawn.refl _⟩
    case round =>
      obtain ⟨j, hj, rfl, hsame, hd⟩ := hrel
      obtain ⟨n0, rfl⟩ := hd
      by_cases hlt : j < n
      · obtain ⟨ad, hl, rfl, hbl, hc⟩ := hA.at_ prOk hlt
        obtain ⟨ad', hl', rfl, hbl', hc'⟩ := hA'.at_ prOk hlt
        obtain ⟨q, hq⟩ : ∃ q, q = l[j] := ⟨_, rfl⟩
        obtain ⟨p, hp⟩ : ∃ p, p = l'[j] := ⟨_, rfl⟩
        rw [← hq] at hc
        rw [← hp] at hc'
        obtain ⟨c0, c1⟩ := pr_at hc
        obtain ⟨d0, d1⟩ := pr_at hc'
        have HQ := hide hq
        have HP := hide hp
        clear hc hq hc' hp
        have z1 : (0 : Int) ≤ (j : Int) := by omega
        have z2 : (j : Int) < (n : Int) := by omega
        by_cases hqi : q.i = p.i
        · by_cases hqk : q.k = p.k
          · have hst := hsame.step hl hl' (by rw [← HQ.out, ← HP.out]; exact Pr.ext hqi hqk)
            rw [hqi] at c0
            rw [hqk] at c1
            clear hqi hqk
            go_wp2_with fail
            go_quiet (fail)
            go_wp2
            go_roundw
            case rel => exact ⟨j + 1, by omega, by go_num, hst, (by first | exact drawn_one _ _ | exact drawn_two _ _ _)⟩
            case measure => simp [intOf]; omega
          · have hf : decide (l = l') = false := decide_eq_false (fun e => hqk (by rw [HQ.out, HP.out]; subst e; rfl))
            have HI := hide (HR.out.trans hf)
            have q3 : ¬ ((q.k : Int) = (p.k : Int)) := by omega
            rw [hqi] at c0
            clear hqi hqk hf
            go_wp2_with fail
            go_quiet (fail)
            go_wp2
            go_ret
            exact ⟨ret_bool HI.out.symm, (by first | exact drawn_one _ _ | exact drawn_two _ _ _)⟩
        · have hf : decide (l = l') = false := decide_eq_false (fun e => hqi (by rw [HQ.out, HP.out]; subst e; rfl))
          have HI := hide (HR.out.trans hf)
          have q3 : ¬ ((q.i : Int) = (p.i : Int)) := by omega
          clear hqi hf
          go_wp2_with fail
          go_quiet (fail)
          go_wp2
          go_ret
          exact ⟨ret_bool HI.out.symm, (by first | exact drawn_one _ _ | exact drawn_two _ _ _)⟩
      · have hf : decide (l = l') = true := decide_eq_true (hsame.done (by rw [HL.out]; omega) (by rw [HL'.out]; omega))
        have HI := hide (HR.out.trans hf)
        clear hf
        go_wp2
        go_ret
        exact ⟨ret_bool HI.out.symm, drawn_one _ _⟩
  · have hf : decide (l = l') = false := decide_eq_false (fun e => hnm (by rw [← hlen, ← hlen', e]))
    have HI := hide (hr.trans hf)
    have hne : ((n : Int) != (m : Int)) = true := by simp; omega
    clear hf hr hlen hlen'
    go_enter Tryz.func36, Tryz.ntmps36
    go_wp2
    go_ret
    exact ⟨ret_bool HI.out.symm, Drawn.refl _⟩
end Go.Proofs.YtjmkecaljkcoiaaGreatDoor
namespace Go.Proofs.YtjmkecaljkcoiaaGreatDoor
set_option linter.unusedVariables false
def dedS (acc : List Pr) (p : Pr) : List Pr := if p ∈ acc then acc else acc ++ [p]
def dedup (l : List Pr) : List Pr := l.foldl dedS []
def insP (p : Pr) : List Pr → List Pr
  | [] => [p]
  | q :: r => if q.ahead p then q :: insP p r else p :: q :: r
def posF (p : Pr) : List Pr → Nat
  | [] => 0
  | q :: r => if q.ahead p then posF p r + 1 else 0
def insS (acc : List Pr) (p : Pr) : List Pr := if p ∈ acc then acc else insP p acc
def sortP (l : List Pr) : List Pr := l.foldl insS []
def PosTo (p : Pr) (l : List Pr) (a : Nat) : Prop := posF p l = a + posF p (l.drop a)
theorem PosTo.start (p : Pr) (l : List Pr) : PosTo p l 0 := by simp [PosTo]
theorem PosTo.step {p : Pr} {l : List Pr} {a : Nat} (h : PosTo p l a) (ha : a < l.length) (hh : l[a].ahead p = true) : PosTo p l (a + 1) := by
  unfold PosTo at *
  rw [List.drop_eq_getElem_cons ha, posF, if_pos hh] at h
  omega
theorem PosTo.stop {p : Pr} {l : List Pr} {a : Nat} (h : PosTo p l a) (ha : a < l.length) (hh : l[a].ahead p = false) : posF p l = a := by
  unfold PosTo at *
  rw [List.drop_eq_getElem_cons ha, posF, if_neg (by simp [hh])] at h
  omega
theorem PosTo.end_ {p : Pr} {l : List Pr} {a : Nat} (h : PosTo p l a) (ha : l.length ≤ a) : posF p l = a := by
  unfold PosTo at *
  rw [List.drop_eq_nil_of_le ha, posF] at h
  omega
theorem or_three {A B C : Prop} : (A ∨ B ∨ C) ↔ ((B ∨ A) ∨ C) := ⟨fun h => h.elim (fun a => .inl (.inr a)) (fun h => h.elim (fun b => .inl (.inl b)) .inr), fun h => h.elim (fun h => h.elim (fun b => .inr (.inl b)) .inl) (fun c => .inr (.inr c))⟩
abbrev Rising (l : List Pr) : Prop := l.Pairwise fun p q => p.num < q.num
theorem dedup_snoc (l : List Pr) (p : Pr) : dedup (l ++ [p]) = dedS (dedup l) p := by simp [dedup]
theorem dedup_fold (l acc : List Pr) (h : acc.Nodup) : (l.foldl dedS acc).Nodup ∧ ∀ x, x ∈ l.foldl dedS acc ↔ x ∈ l ∨ x ∈ acc := by
  induction l generalizing acc with
  | nil => exact ⟨h, fun x => by simp⟩
  | cons p r ih =>
    have h1 : (dedS acc p).Nodup ∧ ∀ x, x ∈ dedS acc p ↔ x = p ∨ x ∈ acc := by
      unfold dedS
      split
      · rename_i hp
        exact ⟨h, fun x => ⟨.inr, fun e => e.elim (fun e => e ▸ hp) id⟩⟩
      · rename_i hp
        refine ⟨List.nodup_append.2 ⟨h, by simp, fun a ha b hb => ?_⟩, fun x => by rw [List.mem_append, List.mem_singleton, or_comm]⟩
        rw [List.mem_singleton] at hb
        subst hb
        exact fun e => hp (e ▸ ha)
    obtain ⟨h3, h4⟩ := ih _ h1.1
    exact ⟨h3, fun x => by rw [List.foldl_cons, h4, h1.2, List.mem_cons]; exact or_three⟩
theorem mem_dedup (l : List Pr) (x : Pr) : x ∈ dedup l ↔ x ∈ l := by
  have := (dedup_fold l [] List.nodup_nil).2 x
  simpa [dedup] using this
open Go.RowKit
def MakesP (w : World) (m : List Pr) (e : Ending) (w' : World) : Prop :=
  ∃ A c, e = .returned (.slice A m.length c) ∧ OwnP w' w.heap.size (.slice A m.length c) m.length m ∧ Below w.heap.size w w'
theorem es_lit (w : World) (q : Pr) (T : TypeId) : Es prC (w.alloc (.cells #[.int .u16 q.i, .int .u32 q.k] T)) (w.heap.size + 1) (some ⟨w.heap.size, 0, none⟩) 1 [q] := by
  refine ⟨rfl, fun _ => ⟨_, rfl, Nat.lt_succ_self _, fun j v hv => ?_⟩⟩
  rw [ec_one] at hv
  have hj : j < 2 := (List.getElem?_eq_some_iff.1 hv).1
  obtain rfl | rfl : j = 0 ∨ j = 1 := by omega
  · simp [prC] at hv
    subst hv
    exact cell_of_row _ _ 0 _ T (0, 0) (heap_alloc_new w _)
  · simp [prC] at hv
    subst hv
    exact cell_of_row _ _ 1 _ T (0, 0) (heap_alloc_new w _)
end Go.Proofs.YtjmkecaljkcoiaaGreatDoor
