import Derived.Test.YtjmkecaljkcoiaaGreatDoorQGet1
import Derived.Deep.WholeRow
import Derived.Test.YtjmkecaljkcoiaaGreatDoorQMask4
import Derived.Laws.Rows
import Derived.Test.YtjmkecaljkcoiaaGreatDoorQSortM
import Derived.Test.YtjmkecaljkcoiaaGreatDoorQViewD
import Derived.Test.YtjmkecaljkcoiaaGreatDoorSh1
import Derived.Lib.AppendIntMem
import Derived.Lib.ItoaMem
import Derived.Lib.LaidTab
import Derived.Lib.Walk
import Derived.BigCall
import Derived.BigGuard
import Derived.Laws.IdiomStrings
import Derived.WalkSpells
import Derived.Test.YtjmkecaljkcoiaaGreatDoorQViewT
namespace Go.Proofs.YtjmkecaljkcoiaaGreatDoor
open Go.RowKit
set_option linter.unusedVariables false
def topF : Nat → Nat → Nat
  | 0, _ => 0
  | k + 1, n => if n = 0 then 0 else topF k (n / 2) + 1
theorem topF_zero (k : Nat) : topF k 0 = 0 := by cases k <;> simp [topF]
theorem topF_pos (k n : Nat) (h : n ≠ 0) : topF (k + 1) n = topF k (n / 2) + 1 := by simp [topF, h]
def topL (n : Nat) : Nat := topF 64 n
structure TopInv (n j m : Nat) : Prop where
  whole : topL n = j + topF (64 - j) m
  small : m < 2 ^ (64 - j)
  upto : j ≤ 64
theorem TopInv.start (n : Nat) (h : n < 18446744073709551616) : TopInv n 0 n := ⟨by simp [topL], h, by omega⟩
theorem TopInv.step {n j m : Nat} (h : TopInv n j m) (hm : m ≠ 0) : TopInv n (j + 1) (m / 2) := by
  obtain ⟨h1, h2, h3⟩ := h
  obtain ⟨r, hr⟩ : ∃ r, 64 - j = r := ⟨_, rfl⟩
  rw [hr] at h1 h2
  cases r with
  | zero => simp at h2; omega
  | succ r =>
    have e : 64 - (j + 1) = r := by omega
    refine ⟨by rw [h1, topF_pos r m hm, e]; omega, ?_, by omega⟩
    rw [e]
    rw [Nat.pow_succ] at h2
    omega
theorem TopInv.stop {n j : Nat} (h : TopInv n j 0) : j = topL n := by rw [h.whole, topF_zero]; omega
theorem TopInv.room {n j m : Nat} (h : TopInv n j m) : j ≤ 64 := h.upto
theorem TopInv.fits {n j m : Nat} (h : TopInv n j m) : m < 18446744073709551616 := Nat.lt_of_lt_of_le h.small (Nat.pow_le_pow_right (by decide) (by omega : 64 - j ≤ 64))
end Go.Proofs.YtjmkecaljkcoiaaGreatDoor
namespace Go.Proofs.YtjmkecaljkcoiaaGreatDoor
open Go.RowKit
set_option linter.unusedVariables false
set_option linter.unusedSimpArgs false
def flagsA (p : Nat → Bool) : Array Value := ((List.range 128).map fun i => Value.bool (p i)).toArray
section
variable {w w' : World} {b : Nat} {p : Nat → Bool}
end
end Go.Proofs.YtjmkecaljkcoiaaGreatDoor
namespace Go.Proofs.YtjmkecaljkcoiaaGreatDoor
open Go.RowKit
set_option linter.unusedVariables false
set_option linter.unusedSimpArgs false
theorem MAt.set0 {w : World} {b x y : Nat} (h : MAt w b x y) (x' : Nat) (v : Int) (hv : v = (x' : Int)) : MAt (w.setCell ⟨b, 0, none⟩ (.int .u64 v)) b x' y := by
  subst hv; exact heap_setCell_same w b 0 _ _ (.int .u64 x') h
theorem MAt.set1 {w : World} {b x y : Nat} (h : MAt w b x y) (y' : Nat) (v : Int) (hv : v = (y' : Int)) : MAt (w.setCell ⟨b, 1, none⟩ (.int .u64 v)) b x y' := by
  subst hv; exact heap_setCell_same w b 1 _ _ (.int .u64 y') h
def loR (p : Nat → Bool) (j : Nat) : Nat := if j < 64 then wordOf (fun i => p (i + j)) (64 - j) else 0
def hiR (p : Nat → Bool) (j : Nat) : Nat := if j < 64 then hiM p else wordOf (fun i => p (i + j)) (128 - j)
theorem loR_0 (p : Nat → Bool) : loR p 0 = loM p := by unfold loR loM; rw [if_pos (by omega)]; rfl
theorem hiR_0 (p : Nat → Bool) : hiR p 0 = hiM p := by unfold hiR; rw [if_pos (by omega)]
theorem loR_128 (p : Nat → Bool) : loR p 128 = 0 := by unfold loR; rw [if_neg (by omega)]
theorem hiR_128 (p : Nat → Bool) : hiR p 128 = 0 := by unfold hiR; rw [if_neg (by omega)]; rfl
structure OfR (p : Nat → Bool) (j x y : Nat) : Prop where
  lo : x = loR p j
  hi : y = hiR p j
theorem OfR.start (p : Nat → Bool) : OfR p 128 0 0 := ⟨(loR_128 p).symm, (hiR_128 p).symm⟩
theorem OfR.done {p : Nat → Bool} {x y : Nat} (h : OfR p 0 x y) : x = loM p ∧ y = hiM p := ⟨h.lo.trans (loR_0 p), h.hi.trans (hiR_0 p)⟩
end Go.Proofs.YtjmkecaljkcoiaaGreatDoor
namespace Go.Proofs.YtjmkecaljkcoiaaGreatDoor
open Go.RowKit
theorem quiet_row {P : Program} {o : Oper} {a : Act} {C : World → Prop} {K : Act → Prop} (T : TypeId) (x : Operand) (g : Nat) (cs : Array Value) {T' : TypeId} {fr : Nat × Nat} {d : TypeDesc} (ho : o.op = .load T x) (hx : a.eval x = .pointer (some ⟨g, 0, none⟩))
    (hrow : ∀ w, C w → w.heap[g]? = some (.cells cs T' fr)) (hu : P.underlying T = some d) (hd : (match d with | .struct _ | .array _ _ => true | _ => false) = true) (hi : (P.info? T).map (·.size) = some cs.size)
    (hk : K (a.put o.dst (.agg cs))) : o.quiet P a C K := by
  refine ⟨.agg cs, fun w hw => ?_, hk⟩
  have hr := run_loadVar_row (P := P) w g T' T cs fr d (hrow w hw) hu hd hi
  unfold Oper.quietAt execOp
  simp only [ho, hx, Instr.loadAt, Instr.sureAddr, Sem.run_bind, Sem.run_pure, Result.andThen_ok, hr]
  exact ⟨rfl, rfl⟩
theorem later_row {w0 : World} {g : Nat} {o : Obj} (h : w0.heap[g]? = some o) : ∀ w, (∃ x : Later w0, w = x.w) → w.heap[g]? = some o := by
  rintro w ⟨x, rfl⟩
  exact (x.below.block g (Array.getElem?_eq_some_iff.1 h).1).trans h
end Go.Proofs.YtjmkecaljkcoiaaGreatDoor
namespace Go.Proofs.YtjmkecaljkcoiaaGreatDoor
open Go.RowKit Go.Maps
set_option linter.unusedVariables false
set_option linter.unusedSimpArgs false
set_option maxRecDepth 100000 in
theorem rleaf_any (x : Vw) (p : Pr) (B : Nat) (w : World) (h : VwIn w B x) (hB : B ≤ w.heap.size) :
    Calls Tryz.prog 45 #[.agg #[.int .u64 x.id, .slice x.A x.m x.c, .slice x.B x.d x.e, .slice x.C x.f x.g], .agg #[.int .u16 p.i, .int .u32 p.k]] w fun e w' => e = .returned (.int .i64 (lfI x.v.lvs p)) ∧ Below w.heap.size w w' := by
  obtain ⟨id, A, m, c, l, B', d, e, q, C, f, g, r⟩ := x
  have v0 : VAt ((w.alloc (.cells #[.int .u64 id, .slice A m c, .slice B' d e, .slice C f g] 26)).alloc (.cells #[.int .u16 p.i, .int .u32 p.k] 44)) w.heap.size ⟨id, A, m, c, l, B', d, e, q, C, f, g, r⟩ := (VAt.mk_ w ⟨id, A, m, c, l, B', d, e, q, C, f, g, r⟩).alloc _
  have hbz : Below w.heap.size w ((w.alloc (.cells #[.int .u64 id, .slice A m c, .slice B' d e, .slice C f g] 26)).alloc (.cells #[.int .u16 p.i, .int .u32 p.k] 44)) := ((Below.refl _ _).alloc (Nat.le_refl _) _).alloc (by simp) _
  have g0 : ((w.alloc (.cells #[.int .u64 id, .slice A m c, .slice B' d e, .slice C f g] 26)).alloc (.cells #[.int .u16 p.i, .int .u32 p.k] 44)).cell? ⟨w.heap.size + 1, 0, none⟩ = some (.int .u16 p.i) := by go_simp
  have g1 : ((w.alloc (.cells #[.int .u64 id, .slice A m c, .slice B' d e, .slice C f g] 26)).alloc (.cells #[.int .u16 p.i, .int .u32 p.k] 44)).cell? ⟨w.heap.size + 1, 1, none⟩ = some (.int .u32 p.k) := by go_simp
  obtain ⟨i1, i2, i3, i4, i5, i6, i7, i8, i9, i10, i11⟩ := h
  simp only [Vw.v]
  dsimp only at *
  have hlen := i5.len
  have hd63 := Nat.le_trans i6 i7
  unfold maxLen at hd63
  obtain ⟨lvs, hlv⟩ : ∃ lvs, lvs = q.map Lf.l := ⟨_, rfl⟩
  rw [← hlv]
  have hll : lvs.length = d := by rw [hlv, List.length_map, hlen]
  have hat : ∀ k (h1 : k < q.length) (h2 : k < lvs.length), lvs[k] = q[k].l := fun k h1 h2 => by simp [hlv]
  obtain ⟨a, ha⟩ : ∃ a, a = lfI lvs p := ⟨_, rfl⟩
  rw [← ha]
  have HR := hide ha
  have HL := hide (And.intro hlen hll)
  have HAT := hide hat
  have HIN := hide i8
  have s0 := NotL.start p lvs
  clear hlen hlv hll hat i8 ha
  go_enter Tryz.func45, Tryz.ntmps45
  go_wp2
  go_loopw [5] (fun i wr => ∃ j : Nat, j ≤ d ∧ i = .int .i64 j ∧ NotL p lvs j ∧ VAt wr w.heap.size ⟨id, A, m, c, l, B', d, e, q, C, f, g, r⟩ ∧ wr.cell? ⟨w.heap.size + 1, 0, none⟩ = some (.int .u16 p.i) ∧ wr.cell? ⟨w.heap.size + 1, 1, none⟩ = some (.int .u32 p.k) ∧ Below w.heap.size w wr) (fun i _ => d - (intOf i).toNat)
  case atStart => exact ⟨0, Nat.zero_le _, rfl, s0, v0, g0, g1, hbz⟩
  case round =>
    clear s0 v0 g0 g1 hbz
    obtain ⟨j, hj, rfl, hno, vx, p0, p1, hb⟩ := hrel
    obtain ⟨k0, k1, k2, k3⟩ := vx.cells
    dsimp only at k0 k1 k2 k3
    by_cases hlt : j < d
    · obtain ⟨ad, hl, rfl, hbl, hc⟩ := (i5.below (hb.mono hB)).at_ lfOk hlt
      have hlj : j < lvs.length := by rw [HL.out.2]; exact hlt
      have hyl := HAT.out j hl hlj
      have hhit := hno.hit hlj
      have hstep := hno.step hlj
      rw [hyl] at hhit hstep
      have hy := HIN.out q[j] (List.getElem_mem hl)
      obtain ⟨z, hz⟩ : ∃ z, z = q[j] := ⟨_, rfl⟩
      rw [← hz] at hc hhit hstep hy
      have e0 := Later.cellAt (lf_at hc)
      have g0 := Later.cell k0
      have g1 := Later.cell k1
      have g2 := Later.cell k2
      have g3 := Later.cell k3
      have g4 := Later.cell p0
      have g5 := Later.cell p1
      have z1 : (0 : Int) ≤ (j : Int) := by omega
      have z2 : (j : Int) < (d : Int) := by omega
      have ca := fun Z : Later wr => calm_of (rat_any z.A z.m z.c z.l B p Z.w (hy.below ((hb.trans (Z.below.mono hb.size)).mono hB)).es (Nat.le_trans hB (Nat.le_trans hb.size Z.below.size)) (Nat.le_trans hy.mc hy.room))
      have hap := atI_pos z.l p
      have hal := atI_lt z.l p
      clear hz hc hyl hno hy
      generalize atI z.l p = s at *
      by_cases hs : 0 ≤ s
      · have hh := HR.out.trans (hhit (hap.1 hs))
        have HH := hide hh
        have y1 : decide ((0 : Int) ≤ s) = true := decide_eq_true hs
        clear hhit hstep hh hap
        go_wp2_with fail
        refine wp_region_calm (by kernel_rfl) (by kernel_rfl) ?_
        repeat (go_big_quiet_step (first | (go_at_call 46; with_reducible exact ca _)))
        refine wpQuiet_nil ?_
        rintro _ ⟨x9, rfl⟩
        have hb9 := x9.below
        generalize x9.w = w9 at hb9 ⊢
        have hb10 := hb.trans (hb9.mono hb.size)
        clear ca e0 g0 g1 g2 g3 g4 g5 k0 k1 k2 k3 p0 p1
        go_wp2
        go_ret
        exact ⟨ret_int HH.out.symm, hb10⟩
      · have hst := hstep (fun h => hs (hap.2 h))
        have HS := hide hst
        have y1 : decide ((0 : Int) ≤ s) = false := decide_eq_false hs
        clear hhit hstep hst hap
        go_wp2_with fail
        refine wp_region_calm (by kernel_rfl) (by kernel_rfl) ?_
        repeat (go_big_quiet_step (first | (go_at_call 46; with_reducible exact ca _)))
        refine wpQuiet_nil ?_
        rintro _ ⟨x9, rfl⟩
        have hb9 := x9.below
        have q0 := g4 x9
        have q1 := g5 x9
        generalize x9.w = w9 at hb9 q0 q1 ⊢
        have hb10 := hb.trans (hb9.mono hb.size)
        have v10 := vx.later hb9
        clear ca e0 g0 g1 g2 g3 g4 g5 k0 k1 k2 k3 p0 p1
        go_wp2
        go_roundw
        case rel => exact ⟨j + 1, by omega, by go_num, HS.out, v10, q0, q1, hb10⟩
        case measure => simp [intOf]; omega
    · have hf := hno.out_ (by rw [HL.out.2]; omega)
      have HI := hide (HR.out.trans hf)
      clear hf
      go_wp2
      go_ret
      exact ⟨ret_int HI.out.symm, hb⟩
end Go.Proofs.YtjmkecaljkcoiaaGreatDoor
namespace Go.Proofs.YtjmkecaljkcoiaaGreatDoor
open Go.RowKit Go.Lib Go.Sort
set_option linter.unusedVariables false
set_option linter.unusedSimpArgs false
def Pows (w : World) : Prop := TabIs Tryz.prog w "internal/strconv.uint64pow10" .u64 pow10Tab
theorem Pows.below {w w' : World} (h : Pows w) (hb : Below w.heap.size w w') : Pows w' := by
  unfold Pows TabIs World.var? at *
  cases hg : Tryz.prog.globalNamed "internal/strconv.uint64pow10" with
  | none => simp [hg] at h
  | some g =>
    simp only [hg, Option.bind_some] at h ⊢
    have hlt : g < w.heap.size := by
      rcases Nat.lt_or_ge g w.heap.size with h' | h'
      · exact h'
      · rw [Array.getElem?_eq_none h'] at h; simp at h
    rw [hb.block g hlt]
    exact h
def decS (u : Nat) : ByteArray := ⟨(decDigits u).toArray⟩
theorem small_any (i : Nat) (w : World) (h : i < 100) : Calls Tryz.prog 145 #[.int .i64 i] w fun e w' => e = .returned (.string (decS i)) ∧ w = w' :=
  (Tryz.internal_strconv_small i h w).mono fun _ _ ⟨he, hw⟩ => ⟨he, hw.symm⟩
set_option maxHeartbeats 1000000 in
set_option maxRecDepth 100000 in
theorem ifmtu_big (u : Nat) (hu : 100 ≤ u) (hu64 : u < 18446744073709551616) (w : World) (htab : Pows w) :
    Calls Tryz.prog 98 #[.int .u64 u, .int .i64 10] w fun e w' => e = .returned (.string (decS u)) ∧ Below w.heap.size w w' := by
  have hu1 : 1 ≤ u := by omega
  have hnd20 : nDigits u ≤ 20 := by have := numDigits_eq u hu1 hu64; split at this <;> omega
  have hsl : ∀ W, (Instr.sliceAt 184 (.pointer (some ⟨w.heap.size, 0, none⟩)) none (some (.int .i64 (nDigits u : Int))) none).run Tryz.prog W = .ok (.slice (some ⟨w.heap.size, 0, none⟩) (nDigits u) 24) W := fun W => by
    rw [run_sliceAt_array_h W 184 ⟨w.heap.size, 0, none⟩ Tryz.underlying184 .i64 (nDigits u : Int) (by omega) (by show (nDigits u : Int) ≤ ((24 : Nat) : Int); omega)]
    go_simp
  have hH0 := holds_zero0 w 184 (nDigits u) (by omega)
  have hfmt := Tryz.internal_strconv_formatBase10 w.heap.size 0 24 u (Array.replicate (nDigits u) 0) (w.alloc (.cells zeros24 184)) hH0 (by rw [Array.size_replicate]; exact lt_pow_nDigits u) hu64 (by rw [Array.size_replicate]; omega)
  rw [Array.size_replicate] at hfmt
  have hnum := Tryz.internal_strconv_numDigits u hu1 hu64 (w.alloc (.cells zeros24 184)) (tabIs_alloc htab _)
  have HH0 := Lib.hid hH0
  have iu : (100 : Int) ≤ (u : Int) := by omega
  clear hH0
  go_enter Tryz.func98, Tryz.ntmps98
  go_wp2_with fail
  refine hnum.mono ?_
  rintro e w' ⟨rfl, rfl⟩
  go_wp2_with fail
  refine hfmt.mono ?_
  rintro e w' ⟨rfl, k, v', dk, rfl, hF⟩
  have hcells : ∀ j (hj : j < (decDigits u).length), ((putRow (fun (b : UInt8) => Value.int .u8 b.toNat) (w.alloc (.cells zeros24 184)) w.heap.size 0 dk).drewN k).cell? ((⟨w.heap.size, 0, none⟩ : Addr).add j) = some (.int .u8 ((decDigits u)[j].toNat : Int)) := by
    intro j hjl
    rw [row_is_numeral hF j hjl, add_plain, World.cell?_drewN]
    exact cell?_putRow (fun (b : UInt8) => Value.int .u8 b.toNat) _ w.heap.size 0 _ dk HH0.out (by rw [hF.size, Array.size_replicate]) j (by rw [hF.size]; rw [decDigits_length] at hjl; exact hjl)
  obtain ⟨os, eo⟩ := fin_at w (.cells zeros24 184) dk k 0
  have hnx2 : Below w.heap.size w ((putRow (fun (b : UInt8) => Value.int .u8 b.toNat) (w.alloc (.cells zeros24 184)) w.heap.size 0 dk).drewN k) := by rw [eo]; exact below_grow w.heap.size w (Nat.le_refl _) k os
  generalize (putRow (fun (b : UInt8) => Value.int .u8 b.toNat) (w.alloc (.cells zeros24 184)) w.heap.size 0 dk).drewN k = W2 at hcells hnx2 ⊢
  clear eo HH0 hfmt hnum hF
  have hcv := run_convert_bytes_back (P := Tryz.prog) W2 39 9 5 ⟨w.heap.size, 0, none⟩ 24 (decDigits u) Tryz.underlying39 Tryz.underlying5 Tryz.underlying9 hcells
  rw [decDigits_length] at hcv
  clear hcells
  go_wp2
  go_ret
  exact ⟨rfl, hnx2⟩
theorem fmtu_any (u : Nat) (hu64 : u < 18446744073709551616) (w : World) (htab : Pows w) :
    Calls Tryz.prog 37 #[.int .u64 u, .int .i64 10] w fun e w' => e = .returned (.string (decS u)) ∧ Below w.heap.size w w' := by
  have hi : Calls Tryz.prog 98 #[.int .u64 u, .int .i64 10] w fun e w' => e = .returned (.string (decS u)) ∧ Below w.heap.size w w' := by
    by_cases hu : 100 ≤ u
    · exact ifmtu_big u hu hu64 w htab
    · have hlt : (u : Int) < 100 := by omega
      clear htab
      go_enter Tryz.func98, Tryz.ntmps98
      go_wp2_with fail
      refine (small_any u _ (by omega)).mono ?_
      rintro e w' ⟨rfl, rfl⟩
      go_wp2
      go_ret
      exact ⟨rfl, Below.refl _ _⟩
  clear htab
  go_enter Tryz.func37, Tryz.ntmps37
  go_wp2_with fail
  refine hi.mono ?_
  rintro e w' ⟨rfl, hb⟩
  go_wp2
  go_ret
  exact ⟨rfl, hb⟩
def pidS (i k : Nat) : ByteArray := ⟨(pidT i k).toArray⟩
theorem pidS_eq (i k : Nat) : decS i ++ (⟨#[46]⟩ : ByteArray) ++ decS k = pidS i k := by
  apply ByteArray.ext
  simp [decS, pidS, pidT]
theorem ret_str {a b : ByteArray} (h : a = b) : Ending.returned (.string a) = .returned (.string b) := by rw [h]
theorem nDigits_20 (u : Nat) (h : u < 18446744073709551616) : (decDigits u).length ≤ 20 := by
  rw [decDigits_length]
  by_cases h1 : 1 ≤ u
  · have := numDigits_eq u h1 h; split at this <;> omega
  · obtain rfl : u = 0 := by omega
    rw [nDigits_small (by decide)]; decide
set_option maxRecDepth 100000 in
theorem print_any (i k : Nat) (w : World) (hi : i < 65536) (hk : k < 4294967296) (htab : Pows w) :
    Calls Tryz.prog 38 #[.agg #[.int .u16 i, .int .u32 k]] w fun e w' => e = .returned (.string (pidS i k)) ∧ Below w.heap.size w w' := by
  have li := nDigits_20 i (by omega)
  have lk := nDigits_20 k (by omega)
  go_enter Tryz.func38, Tryz.ntmps38
  go_wp2
  have f0 : (w.alloc (.cells #[.int .u16 i, .int .u32 k] 44)).cell? ⟨w.heap.size, 0, none⟩ = some (.int .u16 i) := by go_simp
  have f1 : (w.alloc (.cells #[.int .u16 i, .int .u32 k] 44)).cell? ⟨w.heap.size, 1, none⟩ = some (.int .u32 k) := by go_simp
  have hb : Below w.heap.size w (w.alloc (.cells #[.int .u16 i, .int .u32 k] 44)) := ((Below.refl _ _).alloc (Nat.le_refl _) _)
  have ht1 := htab.below hb
  generalize (w.alloc (.cells #[.int .u16 i, .int .u32 k] 44)) = w1 at f0 f1 hb ht1 ⊢
  have g0 := Later.cell f0
  have g1 := Later.cell f1
  clear f0 f1 htab
  have k1 := fun x : Later w1 => calm_of (fmtu_any i (by omega) x.w (ht1.below x.below))
  have k2 := fun x : Later w1 => calm_of (fmtu_any k (by omega) x.w (ht1.below x.below))
  have wi : IntKind.u64.wrap (i : Int) = (i : Int) := by rw [IntKind.wrap_u64]; omega
  have wk : IntKind.u64.wrap (k : Int) = (k : Int) := by rw [IntKind.wrap_u64]; omega
  have HE := hide (pidS_eq i k)
  have si : (decS i).size ≤ 20 := by show (decDigits i).toArray.size ≤ 20; simpa using li
  have sk : (decS k).size ≤ 20 := by show (decDigits k).toArray.size ≤ 20; simpa using lk
  generalize decS i = si' at *
  generalize decS k = sk' at *
  refine wp_region_calm (by kernel_rfl) (by kernel_rfl) ?_
  repeat (go_big_quiet_step ((go_at_call 37; first | with_reducible exact k1 _ | with_reducible exact k2 _)))
  refine wpQuiet_nil ?_
  rintro _ ⟨x9, rfl⟩
  have hb9 := x9.below
  generalize x9.w = w9 at hb9 ⊢
  go_wp2
  go_ret
  exact ⟨ret_str HE.out, hb.trans (hb9.mono hb.size)⟩
theorem digit_slice (d : Nat) (D D1 : Int) (hD : D = (d : Int)) (hD1 : D1 = (d : Int) + 1) (h : d < 10) (w : World) :
    (Instr.slice 9 (.string ⟨#[48, 49, 50, 51, 52, 53, 54, 55, 56, 57]⟩) (some (.int .u64 D)) (some (.int .u64 D1)) none).run Tryz.prog w = .ok (.string ⟨#[UInt8.ofNat (48 + d)]⟩) w := by
  subst hD; subst hD1
  have hs : (⟨#[48, 49, 50, 51, 52, 53, 54, 55, 56, 57]⟩ : ByteArray).size = 10 := rfl
  rw [run_slice_string w 9 _ .u64 .u64 _ _ Tryz.underlying9 (by omega) (by omega) (by rw [hs]; omega)]
  have e : ((d : Int).toNat = d) ∧ (((d : Int) + 1).toNat = d + 1) := ⟨by omega, by omega⟩
  rw [e.1, e.2]
  have hall : ∀ j, j < 10 → (⟨#[48, 49, 50, 51, 52, 53, 54, 55, 56, 57]⟩ : ByteArray).extract j (j + 1) = ⟨#[UInt8.ofNat (48 + j)]⟩ := by decide
  rw [hall d h]
theorem decS_small (d : Nat) (h : d < 10) : decS d = ⟨#[UInt8.ofNat (48 + d)]⟩ := by rw [decS, decDigits_one h]
theorem decS_big (u : Nat) (h : ¬ u < 10) : decS (u / 10) ++ (⟨#[UInt8.ofNat (48 + u % 10)]⟩ : ByteArray) = decS u := by
  apply ByteArray.ext
  simp [decS, dec_big u h]
set_option maxRecDepth 100000 in
theorem digits_any (k : Nat) : ∀ (n : Nat) (w : World), n < 10 ^ (k + 1) → n < 18446744073709551616 →
    Calls Tryz.prog 43 #[.int .u64 n] w fun e w' => e = .returned (.string (decS n)) ∧ Below w.heap.size w w' := by
  induction k with
  | zero =>
    intro n w hn _
    have h10 : (n : Int) < 10 := by rw [Nat.zero_add, Nat.pow_one] at hn; omega
    have h9 : n < 10 := by omega
    have hs := fun W => digit_slice n (n : Int) ((n : Int) + 1) rfl rfl h9 W
    rw [decS_small n h9]
    generalize UInt8.ofNat (48 + n) = dd at hs ⊢
    clear hn
    go_enter Tryz.func43, Tryz.ntmps43
    go_wp2_with fail
    go_ret
    exact ⟨rfl, Below.refl _ _⟩
  | succ k ih =>
    intro n w hn hn64
    by_cases h9 : n < 10
    · have h10 : (n : Int) < 10 := by omega
      have hs := fun W => digit_slice n (n : Int) ((n : Int) + 1) rfl rfl h9 W
      rw [decS_small n h9]
      generalize UInt8.ofNat (48 + n) = dd at hs ⊢
      clear hn ih
      go_enter Tryz.func43, Tryz.ntmps43
      go_wp2_with fail
      go_ret
      exact ⟨rfl, Below.refl _ _⟩
    · have h10 : (10 : Int) ≤ (n : Int) := by omega
      have hq := fun W => ih (n / 10) W (by rw [Nat.pow_succ] at hn; omega) (by omega)
      have hs := fun W => digit_slice (n % 10) ((n : Int) % 10) ((n : Int) % 10 + 1) (by omega) (by omega) (by omega) W
      have HB := hide (decS_big n h9)
      have hqs : (decS (n / 10)).size ≤ 20 := by have := nDigits_20 (n / 10) (by omega); show (decDigits (n / 10)).toArray.size ≤ 20; simpa using this
      have ediv : ((n / 10 : Nat) : Int) = (n : Int) / 10 := by omega
      rw [ediv] at hq
      generalize decS (n / 10) = sq at *
      generalize UInt8.ofNat (48 + n % 10) = dd at *
      clear hn ih ediv h9
      go_enter Tryz.func43, Tryz.ntmps43
      go_wp2_with fail
      have k1 := fun x : Later w => calm_of (hq x.w)
      clear hq
      refine wp_region_calm (by kernel_rfl) (by kernel_rfl) ?_
      repeat (go_big_quiet_step ((go_at_call 43; with_reducible exact k1 _)))
      refine wpQuiet_nil ?_
      rintro _ ⟨x9, rfl⟩
      have hb9 := x9.below
      generalize x9.w = w9 at hb9 ⊢
      go_wp2
      go_ret
      exact ⟨ret_str HB.out, hb9⟩
theorem dig16 (i : Nat) (w : World) (hi : i < 65536) : Calls Tryz.prog 43 #[.int .u64 i] w fun e w' => e = .returned (.string (decS i)) ∧ Below w.heap.size w w' := digits_any 4 i w (by omega) (by omega)
theorem dig32 (i : Nat) (w : World) (hi : i < 4294967296) : Calls Tryz.prog 43 #[.int .u64 i] w fun e w' => e = .returned (.string (decS i)) ∧ Below w.heap.size w w' := digits_any 9 i w (by omega) (by omega)
set_option maxRecDepth 100000 in
theorem rprint_any (i k : Nat) (w : World) (hi : i < 65536) (hk : k < 4294967296) :
    Calls Tryz.prog 44 #[.agg #[.int .u16 i, .int .u32 k]] w fun e w' => e = .returned (.string (pidS i k)) ∧ Below w.heap.size w w' := by
  have li := nDigits_20 i (by omega)
  have lk := nDigits_20 k (by omega)
  go_enter Tryz.func44, Tryz.ntmps44
  go_wp2
  have f0 : (w.alloc (.cells #[.int .u16 i, .int .u32 k] 44)).cell? ⟨w.heap.size, 0, none⟩ = some (.int .u16 i) := by go_simp
  have f1 : (w.alloc (.cells #[.int .u16 i, .int .u32 k] 44)).cell? ⟨w.heap.size, 1, none⟩ = some (.int .u32 k) := by go_simp
  have hb : Below w.heap.size w (w.alloc (.cells #[.int .u16 i, .int .u32 k] 44)) := ((Below.refl _ _).alloc (Nat.le_refl _) _)
  generalize (w.alloc (.cells #[.int .u16 i, .int .u32 k] 44)) = w1 at f0 f1 hb ⊢
  have g0 := Later.cell f0
  have g1 := Later.cell f1
  clear f0 f1
  have k1 := fun x : Later w1 => calm_of (dig16 i x.w hi)
  have k2 := fun x : Later w1 => calm_of (dig32 k x.w hk)
  have wi : IntKind.u64.wrap (i : Int) = (i : Int) := by rw [IntKind.wrap_u64]; omega
  have wk : IntKind.u64.wrap (k : Int) = (k : Int) := by rw [IntKind.wrap_u64]; omega
  have HE := hide (pidS_eq i k)
  have si : (decS i).size ≤ 20 := by show (decDigits i).toArray.size ≤ 20; simpa using li
  have sk : (decS k).size ≤ 20 := by show (decDigits k).toArray.size ≤ 20; simpa using lk
  generalize decS i = si' at *
  generalize decS k = sk' at *
  refine wp_region_calm (by kernel_rfl) (by kernel_rfl) ?_
  repeat (go_big_quiet_step ((go_at_call 43; first | with_reducible exact k1 _ | with_reducible exact k2 _)))
  refine wpQuiet_nil ?_
  rintro _ ⟨x9, rfl⟩
  have hb9 := x9.below
  generalize x9.w = w9 at hb9 ⊢
  go_wp2
  go_ret
  exact ⟨ret_str HE.out, hb.trans (hb9.mono hb.size)⟩
end Go.Proofs.YtjmkecaljkcoiaaGreatDoor
