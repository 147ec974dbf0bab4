/-
  Layer 5: the document's Flags and Of.
-/
import Derived.Test.YtdmihbicpjmgjaaDoorQMask6
import Derived.Laws.Rows
import Derived.Test.YtdmihbicpjmgjaaDoorQPr
import Derived.Test.YtdmihbicpjmgjaaDoorQViewA
import Derived.Laws.Strings3
import Derived.Test.YtdmihbicpjmgjaaDoorQLaid3
import Derived.Test.YtdmihbicpjmgjaaDoorQBytes1
namespace Go.Proofs.YtdmihbicpjmgjaaDoor
open Go.RowKit
set_option linter.unusedVariables false
set_option linter.unusedSimpArgs false

theorem MAt.set0 {w : World} {b x y : Nat} (h : MAt w b x y) (x' : Nat) (v : Int) (hv : v = (x' : Int)) : MAt (w.setCell ⟨b, 0, none⟩ (.int .u64 v)) b x' y := by
  subst hv; exact heap_setCell_same w b 0 _ _ (.int .u64 (x' : Int)) h
theorem MAt.set1 {w : World} {b x y : Nat} (h : MAt w b x y) (y' : Nat) (v : Int) (hv : v = (y' : Int)) : MAt (w.setCell ⟨b, 1, none⟩ (.int .u64 v)) b x y' := by
  subst hv; exact heap_setCell_same w b 1 _ _ (.int .u64 (y' : Int)) h

theorem flags_step (f : Nat → Bool) (k : Nat) (i : Nat) : (if i = k then f k else decide (i < k) && f i) = (decide (i < k + 1) && f i) := by
  by_cases h : i = k
  · subst h; simp
  · rw [if_neg h]; congr 1; apply decide_eq_decide.2; omega
/-! ### Of: from the last to the first -/
def loR (p : Nat → Bool) (j : Nat) : Nat := if j < 64 then wordOf (fun i => p (i + j)) (64 - j) else 0
def hiR (p : Nat → Bool) (j : Nat) : Nat := if j < 64 then hiM p else wordOf (fun i => p (i + j)) (128 - j)
theorem word_step (p : Nat → Bool) (j k : Nat) : wordOf (fun i => p (i + j)) (k + 1) = 2 * wordOf (fun i => p (i + (j + 1))) k + (p j).toNat := by
  rw [wordOf, Nat.zero_add]
  congr 2
  exact wordOf_congr fun i _ => by rw [show i + 1 + j = i + (j + 1) from by omega]
theorem loR_lo (p : Nat → Bool) (j : Nat) (h : j < 64) : loR p j = 2 * loR p (j + 1) + (p j).toNat := by
  unfold loR
  rw [if_pos h, show 64 - j = (63 - j) + 1 from by omega, word_step]
  by_cases h2 : j + 1 < 64
  · rw [if_pos h2, show 64 - (j + 1) = 63 - j from by omega]
  · rw [if_neg h2, show 63 - j = 0 from by omega]; rfl
theorem hiR_lo (p : Nat → Bool) (j : Nat) (h : j < 64) : hiR p j = hiR p (j + 1) := by
  unfold hiR
  rw [if_pos h]
  by_cases h2 : j + 1 < 64
  · rw [if_pos h2]
  · rw [if_neg h2, show j + 1 = 64 from by omega]; rfl
theorem hiR_hi (p : Nat → Bool) (j : Nat) (h : ¬ j < 64) (h' : j < 128) : hiR p j = 2 * hiR p (j + 1) + (p j).toNat := by
  unfold hiR
  rw [if_neg h, if_neg (by omega), show 128 - j = (128 - (j + 1)) + 1 from by omega, word_step]
theorem loR_hi (p : Nat → Bool) (j : Nat) (h : ¬ j < 64) : loR p j = loR p (j + 1) := by
  unfold loR
  rw [if_neg h, if_neg (by omega)]
theorem two63 : (9223372036854775808 : Nat) = 2 ^ 63 := by decide
theorem pow63 {j : Nat} (h : j ≤ 63) : 2 ^ j ≤ 9223372036854775808 := Nat.le_trans (Nat.pow_le_pow_right (by decide) h) (by decide)
theorem loR_half (p : Nat → Bool) (j : Nat) (h : j < 64) : loR p (j + 1) < 9223372036854775808 := by
  unfold loR
  split
  · exact Nat.lt_of_lt_of_le (wordOf_lt _ _) (pow63 (by omega))
  · decide
theorem hiR_half (p : Nat → Bool) (j : Nat) (h : ¬ j < 64) : hiR p (j + 1) < 9223372036854775808 := by
  unfold hiR
  rw [if_neg (by omega)]
  exact Nat.lt_of_lt_of_le (wordOf_lt _ _) (pow63 (by omega))
theorem loR_0 (p : Nat → Bool) : loR p 0 = loM p := by unfold loR loM; rw [if_pos (by omega)]; rfl
theorem hiR_0 (p : Nat → Bool) : hiR p 0 = hiM p := by unfold hiR; rw [if_pos (by omega)]
theorem loR_128 (p : Nat → Bool) : loR p 128 = 0 := by unfold loR; rw [if_neg (by omega)]
theorem hiR_128 (p : Nat → Bool) : hiR p 128 = 0 := by unfold hiR; rw [if_neg (by omega)]; rfl
/-- What the two words hold when the ranks from j on are done. -/
structure OfR (p : Nat → Bool) (j x y : Nat) : Prop where
  lo : x = loR p j
  hi : y = hiR p j
theorem OfR.start (p : Nat → Bool) : OfR p 128 0 0 := ⟨(loR_128 p).symm, (hiR_128 p).symm⟩
theorem OfR.done {p : Nat → Bool} {x y : Nat} (h : OfR p 0 x y) : x = loM p ∧ y = hiM p := ⟨h.lo.trans (loR_0 p), h.hi.trans (hiR_0 p)⟩
theorem OfR.stepLo {p : Nat → Bool} {j x y : Nat} (h : OfR p (j + 1) x y) (hj : j < 64) : OfR p j (2 * x + (p j).toNat) y ∧ x < 9223372036854775808 :=
  ⟨⟨by rw [loR_lo p j hj, h.lo], by rw [hiR_lo p j hj, h.hi]⟩, by rw [h.lo]; exact loR_half p j hj⟩
theorem OfR.stepHi {p : Nat → Bool} {j x y : Nat} (h : OfR p (j + 1) x y) (hj : ¬ j < 64) (hj' : j < 128) : OfR p j x (2 * y + (p j).toNat) ∧ y < 9223372036854775808 :=
  ⟨⟨by rw [loR_hi p j hj, h.lo], by rw [hiR_hi p j hj hj', h.hi]⟩, by rw [h.hi]; exact hiR_half p j hj⟩
end Go.Proofs.YtdmihbicpjmgjaaDoor
namespace Go.Proofs.YtdmihbicpjmgjaaDoor
open Go.RowKit
theorem quiet_row {P : Program} {o : Oper} {a : Act} {C : World → Prop} {K : Act → Prop} (T : TypeId) (x : Operand) (g : Nat) (cs : Array Value) {T' : TypeId} {fr : Nat × Nat} {d : TypeDesc} (ho : o.op = .load T x) (hx : a.eval x = .pointer (some ⟨g, 0, none⟩))
    (hrow : ∀ w, C w → w.heap[g]? = some (.cells cs T' fr)) (hu : P.underlying T = some d) (hd : (match d with | .struct _ | .array _ _ => true | _ => false) = true) (hi : (P.info? T).map (·.size) = some cs.size)
    (hk : K (a.put o.dst (.agg cs))) : o.quiet P a C K := by
  refine ⟨.agg cs, fun w hw => ?_, hk⟩
  have hr := run_loadVar_row (P := P) w g T' T cs fr d (hrow w hw) hu hd hi
  unfold Oper.quietAt execOp
  simp only [ho, hx, Instr.loadAt, Instr.sureAddr, Sem.run_bind, Sem.run_pure, Result.andThen_ok, hr]
  exact ⟨rfl, rfl⟩
theorem later_row {w0 : World} {g : Nat} {o : Obj} (h : w0.heap[g]? = some o) : ∀ w, (∃ x : Later w0, w = x.w) → w.heap[g]? = some o := by
  rintro w ⟨x, rfl⟩
  exact (x.below.block g (Array.getElem?_eq_some_iff.1 h).1).trans h
theorem setRow_heap_other (w : World) (g : Nat) (cs : Array Value) (b : Nat) (h : b ≠ g) : (w.setRow g cs).heap[b]? = w.heap[b]? := by
  simp only [World.setRow, Array.getElem?_modify]
  rw [if_neg (fun e => h e.symm)]
end Go.Proofs.YtdmihbicpjmgjaaDoor
namespace Go.Proofs.YtdmihbicpjmgjaaDoor
open Go.RowKit Go.Maps
set_option linter.unusedVariables false
set_option linter.unusedSimpArgs false

set_option maxRecDepth 100000 in
theorem rleaf_any (x : Vw) (p : Pr) (B : Nat) (w : World) (h : VwIn w B x) (hB : B ≤ w.heap.size) :
    Calls Tryd.prog 38 #[.agg #[.int .u64 (x.id : Int), .slice x.A x.m x.c, .slice x.B x.d x.e, .slice x.C x.f x.g], .agg #[.int .u16 (p.i : Int), .int .u32 (p.k : Int)]] w fun e w' => e = .returned (.int .i64 (lfI x.v.lvs p)) ∧ Below w.heap.size w w' := by
  obtain ⟨id, A, m, c, l, B', d, e, q, C, f, g, r⟩ := x
  have v0 : VAt ((w.alloc (.cells #[.int .u64 (id : Int), .slice A m c, .slice B' d e, .slice C f g] 31)).alloc (.cells #[.int .u16 (p.i : Int), .int .u32 (p.k : Int)] 25)) w.heap.size ⟨id, A, m, c, l, B', d, e, q, C, f, g, r⟩ := (VAt.mk_ w ⟨id, A, m, c, l, B', d, e, q, C, f, g, r⟩).alloc _
  have hbz : Below w.heap.size w ((w.alloc (.cells #[.int .u64 (id : Int), .slice A m c, .slice B' d e, .slice C f g] 31)).alloc (.cells #[.int .u16 (p.i : Int), .int .u32 (p.k : Int)] 25)) := ((Below.refl _ _).alloc (Nat.le_refl _) _).alloc (by simp) _
  have g0 : ((w.alloc (.cells #[.int .u64 (id : Int), .slice A m c, .slice B' d e, .slice C f g] 31)).alloc (.cells #[.int .u16 (p.i : Int), .int .u32 (p.k : Int)] 25)).cell? ⟨w.heap.size + 1, 0, none⟩ = some (.int .u16 (p.i : Int)) := by go_simp
  have g1 : ((w.alloc (.cells #[.int .u64 (id : Int), .slice A m c, .slice B' d e, .slice C f g] 31)).alloc (.cells #[.int .u16 (p.i : Int), .int .u32 (p.k : Int)] 25)).cell? ⟨w.heap.size + 1, 1, none⟩ = some (.int .u32 (p.k : Int)) := by go_simp
  obtain ⟨i1, i2, i3, i4, i5, i6, i7, i8, i9, i10, i11⟩ := h
  simp only [Vw.v]
  dsimp only at *
  have hlen := i5.len
  have hd63 := Nat.le_trans i6 i7
  unfold maxLen at hd63
  obtain ⟨lvs, hlv⟩ : ∃ lvs, lvs = q.map Lf.l := ⟨_, rfl⟩
  rw [← hlv]
  have hll : lvs.length = d := by rw [hlv, List.length_map, hlen]
  have hat : ∀ k (h1 : k < q.length) (h2 : k < lvs.length), lvs[k] = q[k].l := fun k h1 h2 => by simp [hlv]
  obtain ⟨a, ha⟩ : ∃ a, a = lfI lvs p := ⟨_, rfl⟩
  rw [← ha]
  have HR := hide ha
  have HL := hide (And.intro hlen hll)
  have HAT := hide hat
  have HIN := hide i8
  have s0 := NotL.start p lvs
  clear hlen hlv hll hat i8 ha
  go_enter Tryd.func38, Tryd.ntmps38
  go_wp2
  go_loopw [5] (fun i wr => ∃ j : Nat, j ≤ d ∧ i = .int .i64 j ∧ NotL p lvs j ∧ VAt wr w.heap.size ⟨id, A, m, c, l, B', d, e, q, C, f, g, r⟩ ∧ wr.cell? ⟨w.heap.size + 1, 0, none⟩ = some (.int .u16 (p.i : Int)) ∧ wr.cell? ⟨w.heap.size + 1, 1, none⟩ = some (.int .u32 (p.k : Int)) ∧ Below w.heap.size w wr) (fun i _ => d - (intOf i).toNat)
  case atStart => exact ⟨0, Nat.zero_le _, rfl, s0, v0, g0, g1, hbz⟩
  case round =>
    clear s0 v0 g0 g1 hbz
    obtain ⟨j, hj, rfl, hno, vx, p0, p1, hb⟩ := hrel
    obtain ⟨k0, k1, k2, k3⟩ := vx.cells
    dsimp only at k0 k1 k2 k3
    by_cases hlt : j < d
    · obtain ⟨ad, hl, rfl, hbl, hc⟩ := (i5.below (hb.mono hB)).at_ lfOk hlt
      have hlj : j < lvs.length := by rw [HL.out.2]; exact hlt
      have hyl := HAT.out j hl hlj
      have hhit := hno.hit hlj
      have hstep := hno.step hlj
      rw [hyl] at hhit hstep
      have hy := HIN.out q[j] (List.getElem_mem hl)
      obtain ⟨z, hz⟩ : ∃ z, z = q[j] := ⟨_, rfl⟩
      rw [← hz] at hc hhit hstep hy
      have e0 := Later.cellAt (lf_at hc)
      have g0 := Later.cell k0
      have g1 := Later.cell k1
      have g2 := Later.cell k2
      have g3 := Later.cell k3
      have g4 := Later.cell p0
      have g5 := Later.cell p1
      have z1 : (0 : Int) ≤ (j : Int) := by omega
      have z2 : (j : Int) < (d : Int) := by omega
      have ca := fun Z : Later wr => calm_of (rat_any z.A z.m z.c z.l B p Z.w (hy.below ((hb.trans (Z.below.mono hb.size)).mono hB)).es (Nat.le_trans hB (Nat.le_trans hb.size Z.below.size)) (Nat.le_trans hy.mc hy.room))
      have hap := atI_pos z.l p
      have hal := atI_lt z.l p
      clear hz hc hyl hno hy
      generalize atI z.l p = s at *
      by_cases hs : 0 ≤ s
      · have hh := HR.out.trans (hhit (hap.1 hs))
        have HH := hide hh
        have y1 : decide ((0 : Int) ≤ s) = true := decide_eq_true hs
        clear hhit hstep hh hap
        go_wp2_with fail
        refine wp_region_calm (by kernel_rfl) (by kernel_rfl) ?_
        repeat (go_big_quiet_step (first | (go_at_call 39; with_reducible exact ca _)))
        refine wpQuiet_nil ?_
        rintro _ ⟨x9, rfl⟩
        have hb9 := x9.below
        generalize x9.w = w9 at hb9 ⊢
        have hb10 := hb.trans (hb9.mono hb.size)
        clear ca e0 g0 g1 g2 g3 g4 g5 k0 k1 k2 k3 p0 p1
        go_wp2
        go_ret
        exact ⟨ret_int HH.out.symm, hb10⟩
      · have hst := hstep (fun h => hs (hap.2 h))
        have HS := hide hst
        have y1 : decide ((0 : Int) ≤ s) = false := decide_eq_false hs
        clear hhit hstep hst hap
        go_wp2_with fail
        refine wp_region_calm (by kernel_rfl) (by kernel_rfl) ?_
        repeat (go_big_quiet_step (first | (go_at_call 39; with_reducible exact ca _)))
        refine wpQuiet_nil ?_
        rintro _ ⟨x9, rfl⟩
        have hb9 := x9.below
        have q0 := g4 x9
        have q1 := g5 x9
        generalize x9.w = w9 at hb9 q0 q1 ⊢
        have hb10 := hb.trans (hb9.mono hb.size)
        have v10 := vx.later hb9
        clear ca e0 g0 g1 g2 g3 g4 g5 k0 k1 k2 k3 p0 p1
        go_wp2
        go_roundw
        case rel => exact ⟨j + 1, by omega, by go_num, HS.out, v10, q0, q1, hb10⟩
        case measure => simp [intOf]; omega
    · have hf := hno.out_ (by rw [HL.out.2]; omega)
      have HI := hide (HR.out.trans hf)
      clear hf
      go_wp2
      go_ret
      exact ⟨ret_int HI.out.symm, hb⟩
theorem rksB_lt {mem l : List Pr} {r : Nat} (h : rksB mem l r = true) : r < mem.length := by
  obtain ⟨p, _, hm, e⟩ := of_decide_eq_true h
  rw [← e]; exact plc_lt hm
end Go.Proofs.YtdmihbicpjmgjaaDoor
namespace Go.Proofs.YtdmihbicpjmgjaaDoor
open Go.RowKit Go.Sort
open Go.Lib hiding intOf
set_option linter.unusedVariables false
set_option linter.unusedSimpArgs false

theorem char_at (s : ByteArray) (l : List UInt8) (hl : l = s.data.toList) (k : Nat) (K : Int) (hK : K = (k : Int)) (h : k < l.length) (W : World) :
    (Instr.index 9 (.string s) (.int .i64 K)).run Tryd.prog W = .ok (.int .u8 (l[k].toNat : Int)) W := by
  subst hK; subst hl
  have hs : k < s.size := by rw [Array.length_toList] at h; exact h
  rw [run_index_string W 9 s .i64 _ Tryd.underlying9, dif_pos ⟨by omega, by omega⟩]
  rfl
theorem valF_lt' (l : List UInt8) (acc : Nat) (h : allDig l) : valF acc l < (acc + 1) * 10 ^ l.length := by
  induction l generalizing acc with
  | nil => simp [valF]
  | cons c r ih =>
    have h1 : 48 ≤ c.toNat ∧ c.toNat ≤ 57 := h c (List.mem_cons_self ..)
    have h2 := ih (acc * 10 + (c.toNat - 48)) fun x hx => h x (List.mem_cons_of_mem _ hx)
    have h3 : valF acc (c :: r) = valF (acc * 10 + (c.toNat - 48)) r := rfl
    have h4 : (acc * 10 + (c.toNat - 48) + 1) * 10 ^ r.length ≤ ((acc + 1) * 10) * 10 ^ r.length := Nat.mul_le_mul_right _ (by omega)
    rw [h3, List.length_cons, Nat.pow_succ, Nat.mul_comm (10 ^ r.length) 10, ← Nat.mul_assoc]
    omega
theorem valF_lt (l : List UInt8) (h : allDig l) : valF 0 l < 10 ^ l.length := by
  have := valF_lt' l 0 h
  simpa using this
/-- What the loop of 'number' knows. -/
structure NumInv (l : List UInt8) (k v : Nat) : Prop where
  all : allDig (l.take k)
  val : v = valF 0 (l.take k)
theorem NumInv.start (l : List UInt8) : NumInv l 0 0 := ⟨fun c hc => by simp at hc, by simp [valF]⟩
theorem NumInv.step {l : List UInt8} {k v y : Nat} (h : NumInv l k v) (hk : k < l.length) (hy : y = l[k].toNat) (h1 : 48 ≤ y) (h2 : y ≤ 57) : NumInv l (k + 1) (v * 10 + (y - 48)) := by
  have e : l.take (k + 1) = l.take k ++ [l[k]] := by rw [List.take_succ_eq_append_getElem hk]
  refine ⟨fun c hc => ?_, ?_⟩
  · rw [e] at hc
    rcases List.mem_append.1 hc with hc | hc
    · exact h.all c hc
    · rw [List.mem_singleton] at hc
      subst hc
      exact ⟨by omega, by omega⟩
  · rw [e, valF_snoc, ← h.val, hy]
theorem NumInv.fits {l : List UInt8} {k v : Nat} (h : NumInv l k v) (hk : k ≤ 12) : v < 1000000000000 := by
  have h1 := valF_lt _ h.all
  rw [← h.val] at h1
  have h2 : (l.take k).length ≤ 12 := Nat.le_trans (List.length_take_le _ _) hk
  have h3 : 10 ^ (l.take k).length ≤ 10 ^ 12 := Nat.pow_le_pow_right (by decide) h2
  have h4 : 10 ^ 12 = 1000000000000 := by decide
  omega
theorem NumInv.done {l : List UInt8} {k v : Nat} (h : NumInv l k v) (hk : l.length ≤ k) : v = valF 0 l := by
  have := h.val
  rwa [List.take_of_length_le hk] at this
theorem NumInv.bad {l : List UInt8} {k : Nat} (hk : k < l.length) (h : l[k].toNat < 48 ∨ 57 < l[k].toNat) : ¬ allDig l := fun ha => by
  have h1 : 48 ≤ l[k].toNat ∧ l[k].toNat ≤ 57 := ha l[k] (List.getElem_mem hk)
  omega
/-- The answer of 'number'. -/
def NumP (l : List UInt8) (m : Nat) (w : World) (e : Ending) (w' : World) : Prop :=
  (∃ (x : Nat) (b : Bool), e = .returned (.tuple #[.int .u64 (x : Int), .bool b]) ∧ (allDig l → l ≠ [] → l.length ≤ 12 → x = valF 0 l ∧ b = decide (valF 0 l ≤ m))) ∧ w = w'
theorem NumP.mk_bad {l : List UInt8} {m : Nat} {w : World} (h : ¬ (allDig l ∧ l ≠ [] ∧ l.length ≤ 12)) : NumP l m w (.returned (.tuple #[.int .u64 0, .bool false])) w :=
  ⟨⟨0, false, rfl, fun a b c => absurd ⟨a, b, c⟩ h⟩, rfl⟩
theorem NumP.mk_ok {l : List UInt8} {m v : Nat} {w : World} (h : v = valF 0 l) : NumP l m w (.returned (.tuple #[.int .u64 (v : Int), .bool (decide (v ≤ m))])) w :=
  ⟨⟨v, _, rfl, fun _ _ _ => ⟨h, by rw [h]⟩⟩, rfl⟩
/-- Something is read. -/
def NumSome (w : World) (e : Ending) (w' : World) : Prop := (∃ (x : Nat) (b : Bool), e = .returned (.tuple #[.int .u64 (x : Int), .bool b])) ∧ w = w'
theorem wrap16_nat (x : Nat) : ∃ y : Nat, IntKind.u16.wrap (x : Int) = (y : Int) ∧ y < 65536 := ⟨x % 65536, by rw [IntKind.wrap_u16]; omega, by omega⟩
theorem wrap32_nat (x : Nat) : ∃ y : Nat, IntKind.u32.wrap (x : Int) = (y : Int) ∧ y < 4294967296 := ⟨x % 4294967296, by rw [IntKind.wrap_u32]; omega, by omega⟩
end Go.Proofs.YtdmihbicpjmgjaaDoor
