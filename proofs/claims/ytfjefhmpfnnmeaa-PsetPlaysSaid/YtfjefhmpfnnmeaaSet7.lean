/-
  Sets of processes: Keep, a range over the set's map that takes entries out.
-/
import Derived.Test.YtfjefhmpfnnmeaaSet4
import Derived.Laws.IdiomRangeMap
namespace Go.Proofs.Ytfjefhmpfnnmeaa
open Go.RowKit Go.Maps
set_option linter.unusedVariables false
set_option linter.unusedSimpArgs false

/-- A process as a value. -/
def prV (p : Pr) : Value := .agg #[.int .u16 (p.i : Int), .int .u32 (p.k : Int)]
theorem lits_u16 {m : Nat} {a : Value} {x : List Lit} (h : Try.prog.keyLits (m + 1) 29 [a] = some x) : ∃ i : Nat, a = .int .u16 (i : Int) ∧ i < 65536 := by
  unfold Program.keyLits at h
  cases a <;> simp [Try.underlying29] at h
  obtain ⟨⟨rfl, hw⟩, _⟩ := h
  have hb := wf_u16 hw
  obtain ⟨i, rfl⟩ := Int.eq_ofNat_of_zero_le hb.1
  exact ⟨i, rfl, by omega⟩
theorem lits_u32 {m : Nat} {a : Value} {x : List Lit} (h : Try.prog.keyLits (m + 1) 30 [a] = some x) : ∃ i : Nat, a = .int .u32 (i : Int) ∧ i < 4294967296 := by
  unfold Program.keyLits at h
  cases a <;> simp [Try.underlying30] at h
  obtain ⟨⟨rfl, hw⟩, _⟩ := h
  have hb := wf_u32 hw
  obtain ⟨i, rfl⟩ := Int.eq_ofNat_of_zero_le hb.1
  exact ⟨i, rfl, by omega⟩
/-- Whatever is a key of the map is a process. -/
theorem key_inv {key : Value} {kl : Lit} (h : keyOf Try.prog 32 key = some kl) : ∃ p : Pr, key = prV p ∧ kl = p.key := by
  have h0 := h
  obtain ⟨m, hm⟩ := typesPos
  unfold keyOf at h
  simp only [Try.underlying32] at h
  rw [hm] at h
  clear hm
  cases key <;> simp [Try.underlying32, Value.formed, keyTypePid, cellsPid] at h
  rename_i cs
  obtain ⟨hsz, ls, hls, hkl⟩ := h
  obtain ⟨l⟩ := cs
  match l, hsz with
  | [a, b], _ =>
    unfold Program.keyLits at hls
    simp [Try.underlying32, Value.cells, cellsPid, cellsU16, cellsU32] at hls
    cases hx : Try.prog.keyLits (m + 1) 29 [a] with
    | none => rw [hx] at hls; simp at hls
    | some x =>
      cases hy : Try.prog.keyLits (m + 1) 30 [b] with
      | none => rw [hx, hy] at hls; simp at hls
      | some y =>
        obtain ⟨i, rfl, hi⟩ := lits_u16 hx
        obtain ⟨c, rfl, hc⟩ := lits_u32 hy
        refine ⟨⟨i, c, hi, hc⟩, rfl, ?_⟩
        have e := key_pr ⟨i, c, hi, hc⟩
        rw [h0] at e
        exact Option.some.inj e
theorem prV_inj {p q : Pr} (h : prV p = prV q) : p = q := by
  simp only [prV, Value.agg.injEq, Array.mk.injEq, List.cons.injEq, Value.int.injEq, true_and, and_true] at h
  exact Pr.ext (by omega) (by omega)
theorem sameKey_pr (p q : Pr) : p.key.sameKey q.key = decide (p = q) := by
  by_cases e : p = q
  · subst e
    rw [WideAt.sameKey_self (keyLit p)]
    simp
  · rw [sameKey_ne fun h => e (Pr.key_inj h)]
    simp [e]
theorem grown_of_below {w w' : World} (h : Below w.heap.size w w') (row : Option Nat) : w.grownBy w' row := ⟨h.os, h.tape, h.output, h.size, fun i hi _ => h.block i hi⟩
theorem SetAt.grown {w w' : World} {b : Nat} {mg row : Option Nat} {acc : List Pr} (h : SetAt w b mg acc) (hg : w.grownBy w' row) (hr : ∀ i, row = some i → i ≠ b ∧ some i ≠ mg) : SetAt w' b mg acc :=
  h.keep (hg.block b h.lt fun e => (hr b e.symm).1 rfl) fun g hmg => hg.block g (h.mlt g hmg).1 fun e => (hr g e.symm).2 hmg.symm
theorem Turn.grown {w w1 w2 : World} {b : Nat} {mg row : Option Nat} (h : Turn w w1 b mg) (hg : w1.grownBy w2 row) (hr : ∀ i, row = some i → w.heap.size ≤ i ∨ i = b ∨ some i = mg) : Turn w w2 b mg :=
  ⟨hg.os.trans h.os, hg.tape.trans h.tape, hg.output.trans h.output, Nat.le_trans h.size hg.size, fun i hi h1 h2 => (hg.block i (Nat.lt_of_lt_of_le hi h.size) fun e => by
    rcases hr i e.symm with h | h | h
    · omega
    · exact h1 h
    · exact h2 h).trans (h.block i hi h1 h2)⟩
/-- The datum holds just the processes cur, each once. -/
def RdP (D : DataW Unit) (cur : List Pr) : Prop := (∀ p : Pr, Maps.has D p.key = decide (p ∈ cur)) ∧ Maps.size D = cur.length ∧ cur.Nodup
theorem SetD.rd {w : World} {g : Nat} {acc : List Pr} (h : SetD w g acc) : ∃ D, w.ownsMap Try.prog 32 unitElem g acc.length D ∧ RdP D acc := by
  obtain ⟨D, h1, h2, h3, h4⟩ := h
  exact ⟨D, h1, h2, h3, h4⟩
theorem SetAt.dom {w : World} {b g : Nat} {acc : List Pr} (h : SetAt w b (some g) acc) : SetD w g acc := by
  rcases h.2 with ⟨h0, _⟩ | ⟨g', h0, hd⟩
  · cases h0
  · injection h0 with e; subst e; exact hd
theorem RdP.setD {w : World} {g n : Nat} {D : DataW Unit} {cur : List Pr} (h : RdP D cur) (hD : w.ownsMap Try.prog 32 unitElem g n D) : SetD w g cur := ⟨D, ownsMap_tight hD (Nat.le_of_eq h.2.1), h.1, h.2.1, h.2.2⟩
/-- Those to stay, and those that are still to come. -/
def KeepL (acc l : List Pr) (left : Lit → Bool) : List Pr := acc.filter fun p => decide (p ∈ l) || left p.key
theorem keepL_start {acc l : List Pr} {left : Lit → Bool} (h : ∀ p ∈ acc, left p.key = true) : KeepL acc l left = acc := List.filter_eq_self.2 fun p hp => by simp [h p hp]
theorem keepL_end {acc l : List Pr} {left : Lit → Bool} (h : ∀ kl, left kl = false) : KeepL acc l left = acc.filter fun p => decide (p ∈ l) := List.filter_congr fun p _ => by simp [h]
theorem keepL_stays {acc l : List Pr} {left : Lit → Bool} {q : Pr} (hq : q ∈ l) : KeepL acc l (fun z => left z && !z.sameKey q.key) = KeepL acc l left := List.filter_congr fun p _ => by
  show (decide (p ∈ l) || (left p.key && !p.key.sameKey q.key)) = (decide (p ∈ l) || left p.key)
  rw [sameKey_pr]
  by_cases e : p = q
  · subst e; simp [hq]
  · simp [e]
theorem keepL_struck {acc l : List Pr} {left : Lit → Bool} {q : Pr} (hq : q ∉ l) : KeepL acc l (fun z => left z && !z.sameKey q.key) = (KeepL acc l left).filter fun x => decide (x ≠ q) := by
  unfold KeepL
  rw [List.filter_filter]
  refine List.filter_congr fun p _ => ?_
  show (decide (p ∈ l) || (left p.key && !p.key.sameKey q.key)) = (decide (p ≠ q) && (decide (p ∈ l) || left p.key))
  rw [sameKey_pr]
  by_cases e : p = q
  · subst e; simp [hq]
  · simp [e]
theorem RdP.del {w : World} {g n : Nat} {D : DataW Unit} {cur : List Pr} {q : Pr} (h : RdP D cur) (hD : w.ownsMap Try.prog 32 unitElem g n D) (hq : q ∈ cur) : RdP (D.del q.key) (cur.filter fun x => decide (x ≠ q)) := by
  obtain ⟨hh, hs, hn⟩ := h
  have e0 := length_erase hn hq
  have := size_del (k := q.key) (hD.tidy lawPid)
  rw [hh q, decide_eq_true hq, if_pos rfl] at this
  refine ⟨fun p => ?_, by omega, hn.filter _⟩
  by_cases e : p = q
  · subst e
    rw [has_del_same]
    simp
  · rw [has_del_other (fun e' => e (Pr.key_inj e')), hh p]
    simp [e]
theorem skeep_nil (A : Option Addr) (n c : Nat) (w : World) : Calls Try.prog 17 #[.pointer none, .slice A n c] w fun e w' => e = .returned (.int .i64 0) ∧ w = w' := by
  go_enter Try.func17, Try.ntmps17
  go_wp2
  go_ret
  exact ⟨rfl, rfl⟩
/-- Keep's answer. -/
def KeepsTo (w : World) (b : Nat) (mg : Option Nat) (acc l : List Pr) (e : Ending) (w' : World) : Prop :=
  ∃ q : Nat, e = .returned (.int .i64 (q : Int)) ∧ (acc.filter fun p => decide (p ∈ l)).length + q = acc.length ∧ SetAt w' b mg (acc.filter fun p => decide (p ∈ l)) ∧ Turn w w' b mg
set_option maxRecDepth 100000 in
theorem skeep_zero (b : Nat) (A : Option Addr) (n c : Nat) (l : List Pr) (B : Nat) (w : World) (h : SetAt w b none []) (hA : Es prC w B A n l) (hB : B ≤ w.heap.size) (hn : n ≤ 1000000) :
    Calls Try.prog 17 #[.pointer (some ⟨b, 0, none⟩), .slice A n c] w (KeepsTo w b none [] l) := by
  have cn := snew_any A n c l B w hA hB hn
  go_enter Try.func17, Try.ntmps17
  go_wp2_with fail
  refine cn.mono ?_
  rintro e w1 ⟨b2, mg2, rfl, hs2, hb2, hm2, hb⟩
  have hs := h.later hb
  have hc := hs.cell
  have hz := hb.size
  have hrg := run_range_nilMap (P := Try.prog) w1 48 32 52 Try.underlying48
  have hnx : ∀ ty, (Instr.next (.pointer (some ⟨w1.heap.size, 0, none⟩)) false ty).run Try.prog (w1.alloc (.mapIter none 0 #[] 0)) = _ := fun ty => run_next_nilMap w1 ty 0 0 #[]
  have HH := hide (And.intro (hs.alloc (.mapIter none 0 #[] 0)) (hb.alloc hz (.mapIter none 0 #[] 0)))
  clear cn hs2 hb2 hm2 hb hs hz
  go_wp2
  refine wp_loop_rounds 1 ?_
  rw [rounds_succ]
  go_wp2
  go_ret
  exact ⟨0, rfl, rfl, HH.out.1, Turn.of_below HH.out.2 _ _⟩
set_option maxRecDepth 100000 in
set_option maxHeartbeats 1000000 in
theorem skeep_some (b g : Nat) (acc : List Pr) (A : Option Addr) (n c : Nat) (l : List Pr) (B : Nat) (w : World) (h : SetAt w b (some g) acc) (hA : Es prC w B A n l) (hB : B ≤ w.heap.size) (hn : n ≤ 1000000) (ha : acc.length ≤ 1000000) :
    Calls Try.prog 17 #[.pointer (some ⟨b, 0, none⟩), .slice A n c] w (KeepsTo w b (some g) acc l) := by
  have cn := snew_any A n c l B w hA hB hn
  obtain ⟨hglt, hgb⟩ := h.mlt g rfl
  have hblt := h.lt
  go_enter Try.func17, Try.ntmps17
  go_wp2_with fail
  refine cn.mono ?_
  rintro e w1 ⟨b2, mg2, rfl, hs2, hb2, hm2, hb⟩
  have hs := h.later hb
  have hc := hs.cell
  have hz := hb.size
  have hb2l := hs2.lt
  have hm2l := hs2.mlt
  obtain ⟨D0, hD0, hR0⟩ := hs.dom.rd
  clear cn
  go_wp2_with (at_range; refine wpList_range_own _ rfl _ 48 rfl 32 52 lawPid Try.underlying48 unitElem g acc.length D0 rfl hD0 ?_; intro w0 hrg0 hg0 hs0)
  go_frame
  have hsa := hs.grown hg0 (fun i hi => by cases hi)
  have hs2a := hs2.grown hg0 (fun i hi => by cases hi)
  have ht0 := (Turn.of_below hb b (some g)).grown hg0 (fun i hi => by cases hi)
  have k0 : KeepL acc l (Maps.has D0) = acc := keepL_start fun p hp => by rw [hR0.1 p]; exact decide_eq_true hp
  have k1 : ∀ p : Pr, Maps.has D0 p.key = true → p ∈ acc := fun p hp => of_decide_eq_true ((hR0.1 p).symm.trans hp)
  have HX := hide (And.intro k0 k1)
  clear k0 k1
  have hrl : w.heap.size ≤ w1.heap.size := hz
  generalize w1.heap.size = r at *
  clear hs hs2 hg0 hs0 hD0 hb hc
  go_loopw [6] (fun v wr => ∃ (left : Lit → Bool) (cnt q : Nat) (cur : List Pr) (D : DataW Unit), v = .int .i64 q ∧ wr.ranges Try.prog 32 unitElem g r acc.length D left cnt ∧ RdP D cur ∧ cur = KeepL acc l left ∧ (∀ p : Pr, left p.key = true → p ∈ acc) ∧ cur.length + q = acc.length ∧ Turn w wr b (some g) ∧ SetAt wr b2 mg2 (dedup l) ∧ wr.heap[b]? = some (.cells #[.map (some g)] 50 (0, 0))) (fun _ wr => wr.rangeLeft g r)
  case atStart => exact ⟨_, _, 0, acc, D0, rfl, hrg0, hR0, HX.out.1.symm, HX.out.2, rfl, ht0, hs2a, hsa.1⟩
  case round =>
    obtain ⟨left, cnt, q, cur, D, rfl, hrg, hR, hcur, hin, hcq, ht, hst, hcell⟩ := hrel
    go_wp2_with (at_next; refine wpList_next_ranges _ rfl _ rfl 32 lawPid unitElem (fun p : Pr => .agg #[.int .u16 (p.i : Int), .int .u32 (p.k : Int)]) (fun _ : Unit => .agg #[]) (fun key kl hk => by obtain ⟨p, e, _⟩ := key_inv hk; exact ⟨p, e⟩) (fun v y hv => by obtain ⟨e, _⟩ := unitElem_inv hv; exact ⟨(), e⟩) g r acc.length _ _ _ rfl hrg ?_ ?_)
    · intro hc0 hl0
      have hk := keepL_end (acc := acc) (l := l) hl0
      rw [hk] at hcur
      have hd := hR.setD hrg.owns
      rw [hcur] at hd hcq
      have hat : SetAt wr b (some g) (acc.filter fun p => decide (p ∈ l)) := ⟨hcell, .inr ⟨g, rfl, hd⟩⟩
      have HH := hide (And.intro hat (And.intro hcq ht))
      clear hat hcq ht hd hcell hcur hk hR hrg hl0 hin hst
      go_wp2
      go_ret
      exact ⟨q, rfl, HH.out.2.1, HH.out.1, HH.out.2.2⟩
    · intro x kl yd yp w2 cnt2 hkey hlk hv hat hrg2 hlt hg2 hs2 hen
      obtain ⟨p, ex, rfl⟩ := key_inv hkey
      obtain rfl : x = p := prV_inj ex
      have hpa := hin x hlk
      have hbr : b < wr.heap.size := (Array.getElem?_eq_some_iff.1 hcell).1
      have ht2 : Turn w w2 b (some g) := ht.grown hg2 (fun i hi => .inl (by injection hi with hi; omega))
      have hst2 : SetAt w2 b2 mg2 (dedup l) := hst.grown hg2 (fun i hi => by injection hi with hi; subst hi; exact ⟨by omega, fun e => by have := (hm2l _ e.symm).1; omega⟩)
      have hc2 : w2.heap[b]? = some (.cells #[.map (some g)] 50 (0, 0)) := (hg2.block b hbr (fun e => by injection e with e; omega)).trans hcell
      have hg3 := World.grownBy_alloc w2 (.cells #[.int .u16 (x.i : Int), .int .u32 (x.k : Int)] 32) none
      have d0 : (w2.alloc (.cells #[.int .u16 (x.i : Int), .int .u32 (x.k : Int)] 32)).cell? ⟨w2.heap.size, 0, none⟩ = some (.int .u16 (x.i : Int)) := by go_simp
      have d1 : (w2.alloc (.cells #[.int .u16 (x.i : Int), .int .u32 (x.k : Int)] 32)).cell? ⟨w2.heap.size, 1, none⟩ = some (.int .u32 (x.k : Int)) := by go_simp
      have ht3 := ht2.grown hg3 (fun i hi => by cases hi)
      have hst3 := hst2.alloc (.cells #[.int .u16 (x.i : Int), .int .u32 (x.k : Int)] 32)
      have hrg3 := hrg2.alloc (.cells #[.int .u16 (x.i : Int), .int .u32 (x.k : Int)] 32)
      have hc3 : (w2.alloc (.cells #[.int .u16 (x.i : Int), .int .u32 (x.k : Int)] 32)).heap[b]? = some (.cells #[.map (some g)] 50 (0, 0)) := (hg3.block b (Array.getElem?_eq_some_iff.1 hc2).1 (fun e => by cases e)).trans hc2
      have cn := shas_any b2 mg2 (dedup l) x _ hst3
      have ed : decide (x ∈ dedup l) = decide (x ∈ l) := decide_eq_decide.2 (mem_dedup l x)
      rw [ed] at cn
      clear ed
      have hpc : x ∈ cur := by rw [hcur]; exact List.mem_filter.2 ⟨hpa, by simp [hlk]⟩
      have hin2 : ∀ p : Pr, (left p.key && !p.key.sameKey x.key) = true → p ∈ acc := fun p hp => hin p (Bool.and_eq_true _ _ ▸ hp).1
      have HI := hide hin2
      have hD9 := hide hrg.owns
      have HC := hide (And.intro hcur (And.intro hcq (And.intro hpc (And.intro hR hrg.left_eq))))
      clear hs2 hg2 hg3 hrg2 hst2 ht2 hc2 hin2 hin hv hkey ex hat hcur hcq hpc hR hrg ht hst hcell
      by_cases hpl : x ∈ l
      · rw [decide_eq_true hpl] at cn
        have HP := hide hpl
        clear hpl d0 d1
        go_wp2_with fail
        refine cn.mono ?_
        rintro e w3 ⟨rfl, hb3⟩
        have hg4 := grown_of_below hb3 none
        have ht4 := ht3.grown hg4 (fun i hi => by cases hi)
        have hst4 := hst3.later hb3
        have hrg4 := hrg3.kept hg4 (by simp) (by simp)
        have hc4 := (hb3.block b (Array.getElem?_eq_some_iff.1 hc3).1).trans hc3
        have HH := hide (And.intro hrg4 (And.intro ht4 (And.intro hst4 hc4)))
        clear cn hen hg4 ht4 hst4 hrg4 hc4 hb3 ht3 hst3 hrg3 hc3
        go_wp2
        go_roundw
        case rel => exact ⟨_, cnt2, q, cur, D, rfl, HH.out.1, HC.out.2.2.2.1, HC.out.1.trans (keepL_stays HP.out).symm, HI.out, HC.out.2.1, HH.out.2.1, HH.out.2.2.1, HH.out.2.2.2⟩
        case measure => rw [HH.out.1.left_eq, HC.out.2.2.2.2]; exact hlt
      · rw [decide_eq_false hpl] at cn
        have HP := hide hpl
        clear hpl
        go_wp2_with fail
        refine cn.mono ?_
        rintro e w3 ⟨rfl, hb3⟩
        have f0 := cell_later d0 hb3
        have f1 := cell_later d1 hb3
        have hg4 := grown_of_below hb3 none
        have ht4 := ht3.grown hg4 (fun i hi => by cases hi)
        have hst4 := hst3.later hb3
        have hrg4 := hrg3.kept hg4 (by simp) (by simp)
        have hc4 := (hb3.block b (Array.getElem?_eq_some_iff.1 hc3).1).trans hc3
        have hc5 : w3.cell? ⟨b, 0, none⟩ = some (.map (some g)) := cell_of_row w3 b 0 _ _ (0, 0) hc4
        have HH := hide (And.intro ht4 (And.intro hst4 hc4))
        clear cn hen hg4 ht4 hst4 hc4 hb3 ht3 hst3 hrg3 hc3 d0 d1
        go_wp2_with fail
        go_still_tail 5, (by kernel_rfl)
        change wpList _ _ _ _ _ w3.drew
        clear hc5 f0 f1
        have hrg5 : w3.drew.ranges Try.prog 32 unitElem g r acc.length D (fun z => left z && !z.sameKey x.key) cnt2 := hrg4
        refine wpList_delete_ranges _ rfl _ _ 48 32 rfl 52 lawPid Try.underlying48 unitElem g r acc.length D _ cnt2 rfl hrg5 _ _ rfl (key_pr x) ?_
        intro w4 cnt4 hrg6 hle hturn
        rw [strike_twice] at hrg6
        have hgt := hturn.grown
        obtain ⟨ht4, hst4, hc4⟩ := HH.out
        have ht5 : Turn w w4 b (some g) := Turn.grown (w1 := w3) ht4 ⟨hgt.os, hgt.tape, hgt.output, hgt.size, hgt.block⟩ (fun i hi => .inr (.inr (by rw [← hi])))
        have hst5 : SetAt w4 b2 mg2 (dedup l) := SetAt.grown (w := w3) hst4 ⟨hgt.os, hgt.tape, hgt.output, hgt.size, hgt.block⟩ (fun i hi => by injection hi with hi; subst hi; exact ⟨by omega, fun e => by have := hm2 _ e.symm; omega⟩)
        have hc6 : w4.heap[b]? = some (.cells #[.map (some g)] 50 (0, 0)) := (hgt.block b (show b < w3.heap.size from (Array.getElem?_eq_some_iff.1 hc4).1) (fun e => by injection e with e; exact hgb e.symm)).trans hc4
        have HZ := hide (And.intro hrg6 (And.intro ht5 (And.intro hst5 hc6)))
        clear hrg4 hrg5 hrg6 hturn hgt ht4 hst4 hc4 ht5 hst5 hc6 HH
        have hq9 : q ≤ 1000000 := by have := HC.out.2.1; omega
        go_wp2
        go_roundw
        case rel =>
          obtain ⟨e1, e2, e3, e4, _⟩ := HC.out
          exact ⟨_, cnt4, q + 1, _, _, by go_num, HZ.out.1, e4.del hD9.out e3, by rw [e1]; exact (keepL_struck HP.out).symm, HI.out, by have := length_erase e4.2.2 e3; omega, HZ.out.2.1, HZ.out.2.2.1, HZ.out.2.2.2⟩
        case measure => rw [HZ.out.1.left_eq, HC.out.2.2.2.2]; omega
theorem skeep_any (b : Nat) (mg : Option Nat) (acc : List Pr) (A : Option Addr) (n c : Nat) (l : List Pr) (B : Nat) (w : World) (h : SetAt w b mg acc) (hA : Es prC w B A n l) (hB : B ≤ w.heap.size) (hn : n ≤ 1000000) (ha : acc.length ≤ 1000000) :
    Calls Try.prog 17 #[.pointer (some ⟨b, 0, none⟩), .slice A n c] w (KeepsTo w b mg acc l) := by
  rcases h.2 with ⟨rfl, rfl⟩ | ⟨g, rfl, _⟩
  · exact skeep_zero b A n c l B w h hA hB hn
  · exact skeep_some b g acc A n c l B w h hA hB hn ha
end Go.Proofs.Ytfjefhmpfnnmeaa
