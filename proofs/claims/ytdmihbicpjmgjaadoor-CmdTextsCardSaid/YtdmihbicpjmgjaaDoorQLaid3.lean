/-
  Layer 3: numbers as texts: the contracts of strconv.FormatUint at base 10 and of the document's Digits; of Print.
-/
import Derived.Test.YtdmihbicpjmgjaaDoorSh1
import Derived.Lib.AppendIntMem
import Derived.Lib.ItoaMem
import Derived.Lib.LaidTab
import Derived.Lib.Walk
import Derived.BigCall
import Derived.BigGuard
import Derived.Laws.IdiomStrings
import Derived.WalkSpells
import Derived.Test.YtdmihbicpjmgjaaDoorQPr
import Derived.Test.YtdmihbicpjmgjaaDoorQTextM
import Derived.Lib.AtoiErrMem
import Derived.Lib.IndexBytes
import Derived.Deep.QuietTactic
import Derived.BigQuiet
import Derived.Test.YtdmihbicpjmgjaaDoorRows
import Derived.Stop.LaidErr
import Derived.LaidByTextLater
namespace Go.Proofs.YtdmihbicpjmgjaaDoor
open Go.RowKit Go.Lib Go.Sort
set_option linter.unusedVariables false
set_option linter.unusedSimpArgs false

/-- What is wanted of the world: the table of powers of ten. -/
def Pows (w : World) : Prop := TabIs Tryd.prog w "internal/strconv.uint64pow10" .u64 pow10Tab
theorem Pows.below {w w' : World} (h : Pows w) (hb : Below w.heap.size w w') : Pows w' := by
  unfold Pows TabIs World.var? at *
  cases hg : Tryd.prog.globalNamed "internal/strconv.uint64pow10" with
  | none => simp [hg] at h
  | some g =>
    simp only [hg, Option.bind_some] at h ⊢
    have hlt : g < w.heap.size := by
      rcases Nat.lt_or_ge g w.heap.size with h' | h'
      · exact h'
      · rw [Array.getElem?_eq_none h'] at h; simp at h
    rw [hb.block g hlt]
    exact h
/-- A number's digits, as a string. -/
def decS (u : Nat) : ByteArray := ⟨(decDigits u).toArray⟩

theorem small_any (i : Nat) (w : World) (h : i < 100) : Calls Tryd.prog 64 #[.int .i64 (i : Int)] w fun e w' => e = .returned (.string (decS i)) ∧ w = w' :=
  (Tryd.internal_strconv_small i h w).mono fun _ _ ⟨he, hw⟩ => ⟨he, hw.symm⟩
set_option maxHeartbeats 1000000 in
set_option maxRecDepth 100000 in
theorem ifmtu_big (u : Nat) (hu : 100 ≤ u) (hu64 : u < 18446744073709551616) (w : World) (htab : Pows w) :
    Calls Tryd.prog 51 #[.int .u64 (u : Int), .int .i64 10] w fun e w' => e = .returned (.string (decS u)) ∧ Below w.heap.size w w' := by
  have hu1 : 1 ≤ u := by omega
  have hnd20 : nDigits u ≤ 20 := by have := numDigits_eq u hu1 hu64; split at this <;> omega
  have hsl : ∀ W, (Instr.sliceAt 83 (.pointer (some ⟨w.heap.size, 0, none⟩)) none (some (.int .i64 (nDigits u : Int))) none).run Tryd.prog W = .ok (.slice (some ⟨w.heap.size, 0, none⟩) (nDigits u) 24) W := fun W => by
    rw [run_sliceAt_array_h W 83 ⟨w.heap.size, 0, none⟩ Tryd.underlying83 .i64 (nDigits u : Int) (by omega) (by show (nDigits u : Int) ≤ ((24 : Nat) : Int); omega)]
    go_simp
  have hH0 := holds_zero0 w 83 (nDigits u) (by omega)
  have hfmt := Tryd.internal_strconv_formatBase10 w.heap.size 0 24 u (Array.replicate (nDigits u) 0) (w.alloc (.cells zeros24 83)) hH0 (by rw [Array.size_replicate]; exact lt_pow_nDigits u) hu64 (by rw [Array.size_replicate]; omega)
  rw [Array.size_replicate] at hfmt
  have hnum := Tryd.internal_strconv_numDigits u hu1 hu64 (w.alloc (.cells zeros24 83)) (tabIs_alloc htab _)
  have HH0 := Lib.hid hH0
  have iu : (100 : Int) ≤ (u : Int) := by omega
  clear hH0
  go_enter Tryd.func51, Tryd.ntmps51
  go_wp2_with fail
  refine hnum.mono ?_
  rintro e w' ⟨rfl, rfl⟩
  go_wp2_with fail
  refine hfmt.mono ?_
  rintro e w' ⟨rfl, k, v', dk, rfl, hF⟩
  have hcells : ∀ j (hj : j < (decDigits u).length), ((putRow (fun (b : UInt8) => Value.int .u8 (b.toNat : Int)) (w.alloc (.cells zeros24 83)) w.heap.size 0 dk).drewN k).cell? ((⟨w.heap.size, 0, none⟩ : Addr).add j) = some (.int .u8 ((decDigits u)[j].toNat : Int)) := by
    intro j hjl
    rw [row_is_numeral hF j hjl, add_plain, World.cell?_drewN]
    exact cell?_putRow (fun (b : UInt8) => Value.int .u8 (b.toNat : Int)) _ w.heap.size 0 _ dk HH0.out (by rw [hF.size, Array.size_replicate]) j (by rw [hF.size]; rw [decDigits_length] at hjl; exact hjl)
  obtain ⟨os, eo⟩ := fin_at w (.cells zeros24 83) dk k 0
  have hnx2 : Below w.heap.size w ((putRow (fun (b : UInt8) => Value.int .u8 (b.toNat : Int)) (w.alloc (.cells zeros24 83)) w.heap.size 0 dk).drewN k) := by rw [eo]; exact below_grow w.heap.size w (Nat.le_refl _) k os
  generalize (putRow (fun (b : UInt8) => Value.int .u8 (b.toNat : Int)) (w.alloc (.cells zeros24 83)) w.heap.size 0 dk).drewN k = W2 at hcells hnx2 ⊢
  clear eo HH0 hfmt hnum hF
  have hcv := run_convert_bytes_back (P := Tryd.prog) W2 27 9 5 ⟨w.heap.size, 0, none⟩ 24 (decDigits u) Tryd.underlying27 Tryd.underlying5 Tryd.underlying9 hcells
  rw [decDigits_length] at hcv
  clear hcells
  go_wp2
  go_ret
  exact ⟨rfl, hnx2⟩
theorem fmtu_any (u : Nat) (hu64 : u < 18446744073709551616) (w : World) (htab : Pows w) :
    Calls Tryd.prog 30 #[.int .u64 (u : Int), .int .i64 10] w fun e w' => e = .returned (.string (decS u)) ∧ Below w.heap.size w w' := by
  have hi : Calls Tryd.prog 51 #[.int .u64 (u : Int), .int .i64 10] w fun e w' => e = .returned (.string (decS u)) ∧ Below w.heap.size w w' := by
    by_cases hu : 100 ≤ u
    · exact ifmtu_big u hu hu64 w htab
    · have hlt : (u : Int) < 100 := by omega
      clear htab
      go_enter Tryd.func51, Tryd.ntmps51
      go_wp2_with fail
      refine (small_any u _ (by omega)).mono ?_
      rintro e w' ⟨rfl, rfl⟩
      go_wp2
      go_ret
      exact ⟨rfl, Below.refl _ _⟩
  clear htab
  go_enter Tryd.func30, Tryd.ntmps30
  go_wp2_with fail
  refine hi.mono ?_
  rintro e w' ⟨rfl, hb⟩
  go_wp2
  go_ret
  exact ⟨rfl, hb⟩
def pidS (i k : Nat) : ByteArray := ⟨(pidT i k).toArray⟩
theorem pidS_eq (i k : Nat) : decS i ++ (⟨#[46]⟩ : ByteArray) ++ decS k = pidS i k := by
  apply ByteArray.ext
  simp [decS, pidS, pidT]
theorem ret_str {a b : ByteArray} (h : a = b) : Ending.returned (.string a) = .returned (.string b) := by rw [h]
theorem nDigits_20 (u : Nat) (h : u < 18446744073709551616) : (decDigits u).length ≤ 20 := by
  rw [decDigits_length]
  by_cases h1 : 1 ≤ u
  · have := numDigits_eq u h1 h; split at this <;> omega
  · obtain rfl : u = 0 := by omega
    rw [nDigits_small (by decide)]; decide
set_option maxRecDepth 100000 in
theorem print_any (i k : Nat) (w : World) (hi : i < 65536) (hk : k < 4294967296) (htab : Pows w) :
    Calls Tryd.prog 14 #[.agg #[.int .u16 (i : Int), .int .u32 (k : Int)]] w fun e w' => e = .returned (.string (pidS i k)) ∧ Below w.heap.size w w' := by
  have li := nDigits_20 i (by omega)
  have lk := nDigits_20 k (by omega)
  go_enter Tryd.func14, Tryd.ntmps14
  go_wp2
  have f0 : (w.alloc (.cells #[.int .u16 (i : Int), .int .u32 (k : Int)] 25)).cell? ⟨w.heap.size, 0, none⟩ = some (.int .u16 (i : Int)) := by go_simp
  have f1 : (w.alloc (.cells #[.int .u16 (i : Int), .int .u32 (k : Int)] 25)).cell? ⟨w.heap.size, 1, none⟩ = some (.int .u32 (k : Int)) := by go_simp
  have hb : Below w.heap.size w (w.alloc (.cells #[.int .u16 (i : Int), .int .u32 (k : Int)] 25)) := ((Below.refl _ _).alloc (Nat.le_refl _) _)
  have ht1 := htab.below hb
  generalize (w.alloc (.cells #[.int .u16 (i : Int), .int .u32 (k : Int)] 25)) = w1 at f0 f1 hb ht1 ⊢
  have g0 := Later.cell f0
  have g1 := Later.cell f1
  clear f0 f1 htab
  have k1 := fun x : Later w1 => calm_of (fmtu_any i (by omega) x.w (ht1.below x.below))
  have k2 := fun x : Later w1 => calm_of (fmtu_any k (by omega) x.w (ht1.below x.below))
  have wi : IntKind.u64.wrap (i : Int) = (i : Int) := by rw [IntKind.wrap_u64]; omega
  have wk : IntKind.u64.wrap (k : Int) = (k : Int) := by rw [IntKind.wrap_u64]; omega
  have HE := hide (pidS_eq i k)
  have si : (decS i).size ≤ 20 := by show (decDigits i).toArray.size ≤ 20; simpa using li
  have sk : (decS k).size ≤ 20 := by show (decDigits k).toArray.size ≤ 20; simpa using lk
  generalize decS i = si' at *
  generalize decS k = sk' at *
  refine wp_region_calm (by kernel_rfl) (by kernel_rfl) ?_
  repeat (go_big_quiet_step ((go_at_call 30; first | with_reducible exact k1 _ | with_reducible exact k2 _)))
  refine wpQuiet_nil ?_
  rintro _ ⟨x9, rfl⟩
  have hb9 := x9.below
  generalize x9.w = w9 at hb9 ⊢
  go_wp2
  go_ret
  exact ⟨ret_str HE.out, hb.trans (hb9.mono hb.size)⟩
/-! ### The document's digits -/
theorem digit_slice (d : Nat) (D D1 : Int) (hD : D = (d : Int)) (hD1 : D1 = (d : Int) + 1) (h : d < 10) (w : World) :
    (Instr.slice 9 (.string ⟨#[48, 49, 50, 51, 52, 53, 54, 55, 56, 57]⟩) (some (.int .u64 D)) (some (.int .u64 D1)) none).run Tryd.prog w = .ok (.string ⟨#[UInt8.ofNat (48 + d)]⟩) w := by
  subst hD; subst hD1
  have hs : (⟨#[48, 49, 50, 51, 52, 53, 54, 55, 56, 57]⟩ : ByteArray).size = 10 := rfl
  rw [run_slice_string w 9 _ .u64 .u64 _ _ Tryd.underlying9 (by omega) (by omega) (by rw [hs]; omega)]
  have e : ((d : Int).toNat = d) ∧ (((d : Int) + 1).toNat = d + 1) := ⟨by omega, by omega⟩
  rw [e.1, e.2]
  have hall : ∀ j, j < 10 → (⟨#[48, 49, 50, 51, 52, 53, 54, 55, 56, 57]⟩ : ByteArray).extract j (j + 1) = ⟨#[UInt8.ofNat (48 + j)]⟩ := by decide
  rw [hall d h]
theorem decS_small (d : Nat) (h : d < 10) : decS d = ⟨#[UInt8.ofNat (48 + d)]⟩ := by rw [decS, decDigits_one h]
theorem decS_big (u : Nat) (h : ¬ u < 10) : decS (u / 10) ++ (⟨#[UInt8.ofNat (48 + u % 10)]⟩ : ByteArray) = decS u := by
  apply ByteArray.ext
  simp [decS, dec_big u h]
set_option maxRecDepth 100000 in
theorem digits_any (k : Nat) : ∀ (n : Nat) (w : World), n < 10 ^ (k + 1) → n < 18446744073709551616 →
    Calls Tryd.prog 20 #[.int .u64 (n : Int)] w fun e w' => e = .returned (.string (decS n)) ∧ Below w.heap.size w w' := by
  induction k with
  | zero =>
    intro n w hn _
    have h10 : (n : Int) < 10 := by rw [Nat.zero_add, Nat.pow_one] at hn; omega
    have h9 : n < 10 := by omega
    have hs := fun W => digit_slice n (n : Int) ((n : Int) + 1) rfl rfl h9 W
    rw [decS_small n h9]
    generalize UInt8.ofNat (48 + n) = dd at hs ⊢
    clear hn
    go_enter Tryd.func20, Tryd.ntmps20
    go_wp2_with fail
    go_ret
    exact ⟨rfl, Below.refl _ _⟩
  | succ k ih =>
    intro n w hn hn64
    by_cases h9 : n < 10
    · have h10 : (n : Int) < 10 := by omega
      have hs := fun W => digit_slice n (n : Int) ((n : Int) + 1) rfl rfl h9 W
      rw [decS_small n h9]
      generalize UInt8.ofNat (48 + n) = dd at hs ⊢
      clear hn ih
      go_enter Tryd.func20, Tryd.ntmps20
      go_wp2_with fail
      go_ret
      exact ⟨rfl, Below.refl _ _⟩
    · have h10 : (10 : Int) ≤ (n : Int) := by omega
      have hq := fun W => ih (n / 10) W (by rw [Nat.pow_succ] at hn; omega) (by omega)
      have hs := fun W => digit_slice (n % 10) ((n : Int) % 10) ((n : Int) % 10 + 1) (by omega) (by omega) (by omega) W
      have HB := hide (decS_big n h9)
      have hqs : (decS (n / 10)).size ≤ 20 := by have := nDigits_20 (n / 10) (by omega); show (decDigits (n / 10)).toArray.size ≤ 20; simpa using this
      have ediv : ((n / 10 : Nat) : Int) = (n : Int) / 10 := by omega
      rw [ediv] at hq
      generalize decS (n / 10) = sq at *
      generalize UInt8.ofNat (48 + n % 10) = dd at *
      clear hn ih ediv h9
      go_enter Tryd.func20, Tryd.ntmps20
      go_wp2_with fail
      have k1 := fun x : Later w => calm_of (hq x.w)
      clear hq
      refine wp_region_calm (by kernel_rfl) (by kernel_rfl) ?_
      repeat (go_big_quiet_step ((go_at_call 20; with_reducible exact k1 _)))
      refine wpQuiet_nil ?_
      rintro _ ⟨x9, rfl⟩
      have hb9 := x9.below
      generalize x9.w = w9 at hb9 ⊢
      go_wp2
      go_ret
      exact ⟨ret_str HB.out, hb9⟩
theorem dig16 (i : Nat) (w : World) (hi : i < 65536) : Calls Tryd.prog 20 #[.int .u64 (i : Int)] w fun e w' => e = .returned (.string (decS i)) ∧ Below w.heap.size w w' := digits_any 4 i w (by omega) (by omega)
theorem dig32 (i : Nat) (w : World) (hi : i < 4294967296) : Calls Tryd.prog 20 #[.int .u64 (i : Int)] w fun e w' => e = .returned (.string (decS i)) ∧ Below w.heap.size w w' := digits_any 9 i w (by omega) (by omega)
set_option maxRecDepth 100000 in
theorem rprint_any (i k : Nat) (w : World) (hi : i < 65536) (hk : k < 4294967296) :
    Calls Tryd.prog 19 #[.agg #[.int .u16 (i : Int), .int .u32 (k : Int)]] w fun e w' => e = .returned (.string (pidS i k)) ∧ Below w.heap.size w w' := by
  have li := nDigits_20 i (by omega)
  have lk := nDigits_20 k (by omega)
  go_enter Tryd.func19, Tryd.ntmps19
  go_wp2
  have f0 : (w.alloc (.cells #[.int .u16 (i : Int), .int .u32 (k : Int)] 25)).cell? ⟨w.heap.size, 0, none⟩ = some (.int .u16 (i : Int)) := by go_simp
  have f1 : (w.alloc (.cells #[.int .u16 (i : Int), .int .u32 (k : Int)] 25)).cell? ⟨w.heap.size, 1, none⟩ = some (.int .u32 (k : Int)) := by go_simp
  have hb : Below w.heap.size w (w.alloc (.cells #[.int .u16 (i : Int), .int .u32 (k : Int)] 25)) := ((Below.refl _ _).alloc (Nat.le_refl _) _)
  generalize (w.alloc (.cells #[.int .u16 (i : Int), .int .u32 (k : Int)] 25)) = w1 at f0 f1 hb ⊢
  have g0 := Later.cell f0
  have g1 := Later.cell f1
  clear f0 f1
  have k1 := fun x : Later w1 => calm_of (dig16 i x.w hi)
  have k2 := fun x : Later w1 => calm_of (dig32 k x.w hk)
  have wi : IntKind.u64.wrap (i : Int) = (i : Int) := by rw [IntKind.wrap_u64]; omega
  have wk : IntKind.u64.wrap (k : Int) = (k : Int) := by rw [IntKind.wrap_u64]; omega
  have HE := hide (pidS_eq i k)
  have si : (decS i).size ≤ 20 := by show (decDigits i).toArray.size ≤ 20; simpa using li
  have sk : (decS k).size ≤ 20 := by show (decDigits k).toArray.size ≤ 20; simpa using lk
  generalize decS i = si' at *
  generalize decS k = sk' at *
  refine wp_region_calm (by kernel_rfl) (by kernel_rfl) ?_
  repeat (go_big_quiet_step ((go_at_call 20; first | with_reducible exact k1 _ | with_reducible exact k2 _)))
  refine wpQuiet_nil ?_
  rintro _ ⟨x9, rfl⟩
  have hb9 := x9.below
  generalize x9.w = w9 at hb9 ⊢
  go_wp2
  go_ret
  exact ⟨ret_str HE.out, hb.trans (hb9.mono hb.size)⟩
end Go.Proofs.YtdmihbicpjmgjaaDoor
namespace Go.Proofs.YtdmihbicpjmgjaaDoor
open Go.RowKit Go.Lib Go.Sort
set_option linter.unusedVariables false
set_option linter.unusedSimpArgs false

/-- What is wanted of the world: the library's two sentinels. -/
def Errs (w : World) : Prop := (∃ tp p, w.var? Tryd.prog "strconv.ErrSyntax" = some #[.iface tp p]) ∧ ∃ tp p, w.var? Tryd.prog "strconv.ErrRange" = some #[.iface tp p]
theorem var_below {w w' : World} {nm : String} {cs : Array Value} (h : w.var? Tryd.prog nm = some cs) (hb : Below w.heap.size w w') : w'.var? Tryd.prog nm = some cs := by
  unfold World.var? at *
  cases hg : Tryd.prog.globalNamed nm with
  | none => simp [hg] at h
  | some g =>
    simp only [hg, Option.bind_some] at h ⊢
    have hlt : g < w.heap.size := by
      rcases Nat.lt_or_ge g w.heap.size with h' | h'
      · exact h'
      · rw [Array.getElem?_eq_none h'] at h; simp at h
    rw [hb.block g hlt]
    exact h
theorem Errs.below {w w' : World} (h : Errs w) (hb : Below w.heap.size w w') : Errs w' := by
  obtain ⟨⟨t, p, h1⟩, t', p', h2⟩ := h
  exact ⟨⟨t, p, var_below h1 hb⟩, t', p', var_below h2 hb⟩
/-- A numeral is read. -/
def PuOk (u : Nat) (w : World) (e : Ending) (w' : World) : Prop := e = .returned (.tuple #[.int .u64 (u : Int), .nilIface]) ∧ Below w.heap.size w w'
/-! ### Cut -/
/-- Some two texts, no longer than s. -/
def CutSome (n : Nat) (w : World) (e : Ending) (w' : World) : Prop := ∃ (b1 b2 : ByteArray) (f : Bool), e = .returned (.tuple #[.string b1, .string b2, .bool f]) ∧ b1.size ≤ n ∧ b2.size ≤ n ∧ Below w.heap.size w w'
theorem extract_le (s : ByteArray) (a b : Nat) : (s.extract a b).size ≤ s.size := by simp; omega
theorem pidS_size (i k : Nat) (hi : i < 65536) (hk : k < 4294967296) : (pidS i k).size ≤ 16 := by
  have := pidT_len i k hi hk
  show (pidT i k).toArray.size ≤ 16
  simpa using this
/-! ### Parse -/
/-- The answer of Parse. -/
def ParsesP (w : World) (q : Nat × Nat × Nat) (e : Ending) (w' : World) : Prop :=
  e = .returned (.tuple #[.agg #[.int .u16 (q.1 : Int), .int .u32 (q.2.1 : Int)], .int .i64 (q.2.2 : Int)]) ∧ Below w.heap.size w w'
theorem str_toList {a b : ByteArray} (h : a.toList = b.toList) : a = b := by
  rw [toList_data, toList_data] at h
  exact ByteArray.ext (Array.toList_inj.1 h)
end Go.Proofs.YtdmihbicpjmgjaaDoor
namespace Go.Proofs.YtdmihbicpjmgjaaDoor
open Go.RowKit Go.Lib
theorem gPow : Tryd.prog.globalNamed "internal/strconv.uint64pow10" = some 0 := by kernel_rfl
theorem tPow : (Tryd.prog.globals[0]?).map (·.type) = some 98 := by kernel_rfl
theorem cellsStr : Tryd.prog.cellsOf 9 = 1 := by kernel_rfl
theorem cellsU64 : Tryd.prog.cellsOf 26 = 1 := by kernel_rfl
theorem cellsPow : Tryd.prog.cellsOf 98 = 20 := by kernel_rfl
theorem star : "*" ++ "errors.errorString" = "*errors.errorString" := by decide
theorem pows_of {W : World} {rest : List (String × DataW Unit)} (h : laidMet Tryd.prog (("internal/strconv.uint64pow10", Rows.laid_internal_strconv_uint64pow10) :: rest) W) : Pows W :=
  tabIs_of_head (rest := rest) gPow tPow Tryd.underlying98 Tryd.underlying26 cellsU64 cellsPow h
end Go.Proofs.YtdmihbicpjmgjaaDoor
