/-
  Layer 3: texts read: the contracts of Parse and of the document's answer.
-/
import Derived.Test.YtcnnpbeadldflaaDoorPid4
import Derived.Lib.AtoiErrMem
import Derived.Lib.IndexBytes
import Derived.Deep.QuietTactic
import Derived.BigQuiet
namespace Go.Proofs.YtcnnpbeadldflaaDoor
open Go.RowKit Go.Lib Go.Sort
set_option linter.unusedVariables false
set_option linter.unusedSimpArgs false

/-- What is wanted of the world: the library's two sentinels. -/
def Errs (w : World) : Prop := (∃ tp p, w.var? Tryd.prog "strconv.ErrSyntax" = some #[.iface tp p]) ∧ ∃ tp p, w.var? Tryd.prog "strconv.ErrRange" = some #[.iface tp p]
theorem var_below {w w' : World} {nm : String} {cs : Array Value} (h : w.var? Tryd.prog nm = some cs) (hb : Below w.heap.size w w') : w'.var? Tryd.prog nm = some cs := by
  unfold World.var? at *
  cases hg : Tryd.prog.globalNamed nm with
  | none => simp [hg] at h
  | some g =>
    simp only [hg, Option.bind_some] at h ⊢
    have hlt : g < w.heap.size := by
      rcases Nat.lt_or_ge g w.heap.size with h' | h'
      · exact h'
      · rw [Array.getElem?_eq_none h'] at h; simp at h
    rw [hb.block g hlt]
    exact h
theorem Errs.below {w w' : World} (h : Errs w) (hb : Below w.heap.size w w') : Errs w' := by
  obtain ⟨⟨t, p, h1⟩, t', p', h2⟩ := h
  exact ⟨⟨t, p, var_below h1 hb⟩, t', p', var_below h2 hb⟩
/-- A numeral is read. -/
def PuOk (u : Nat) (w : World) (e : Ending) (w' : World) : Prop := e = .returned (.tuple #[.int .u64 (u : Int), .nilIface]) ∧ Below w.heap.size w w'
/-- It isn't: an error that isn't nil. -/
def PuErr (w : World) (e : Ending) (w' : World) : Prop := ∃ (x : Int) (N : Nat), e = .returned (.tuple #[.int .u64 x, .iface 97 (.pointer (some ⟨N, 0, none⟩))]) ∧ Below w.heap.size w w'
theorem pu16_ok (s : ByteArray) (u : Nat) (w : World) (hs : s.size ≤ 2000) (h : parseUintB 16 s.data.toList = .ok u) : Calls Tryd.prog 31 #[.string s, .int .i64 10, .int .i64 16] w (PuOk u w) :=
  (Tryd.strconv_ParseUint_10_at16_ok s (by omega) u h w).mono fun e w' ⟨he, hw⟩ => ⟨he, by
    rcases hw with rfl | rfl
    · exact Below.refl _ _
    · exact bytesWorld_below _ _ _⟩
theorem pu32_ok (s : ByteArray) (u : Nat) (w : World) (hs : s.size ≤ 2000) (h : parseUintB 32 s.data.toList = .ok u) : Calls Tryd.prog 31 #[.string s, .int .i64 10, .int .i64 32] w (PuOk u w) :=
  (Tryd.strconv_ParseUint_10_at32_ok s (by omega) u h w).mono fun e w' ⟨he, hw⟩ => ⟨he, by
    rcases hw with rfl | rfl
    · exact Below.refl _ _
    · exact bytesWorld_below _ _ _⟩
theorem pu16_err (s : ByteArray) (w : World) (hs : s.size ≤ 2000) (he : Errs w) (h : ∀ u, parseUintB 16 s.data.toList ≠ .ok u) : Calls Tryd.prog 31 #[.string s, .int .i64 10, .int .i64 16] w (PuErr w) := by
  obtain ⟨⟨t, p, h1⟩, t', p', h2⟩ := he
  cases hp : parseUintB 16 s.data.toList with
  | ok u => exact absurd hp (h u)
  | range => exact (Tryd.strconv_ParseUint_10_at16_range_var s (by omega) hp t' p' w h2).mono fun e w' ⟨N, he, _, _, hb⟩ => ⟨_, N, he, hb⟩
  | _ =>
    have hc := Any.strconv_ParseUint_10_at16_syntax_var Tryd.laysPu14 s (by omega) hp t p w h1
    change Calls Tryd.prog 31 _ _ _ at hc
    exact hc.mono fun e w' ⟨N, he, _, _, hb⟩ => ⟨_, N, he, hb⟩
theorem pu32_err (s : ByteArray) (w : World) (hs : s.size ≤ 2000) (he : Errs w) (h : ∀ u, parseUintB 32 s.data.toList ≠ .ok u) : Calls Tryd.prog 31 #[.string s, .int .i64 10, .int .i64 32] w (PuErr w) := by
  obtain ⟨⟨t, p, h1⟩, t', p', h2⟩ := he
  cases hp : parseUintB 32 s.data.toList with
  | ok u => exact absurd hp (h u)
  | range => exact (Tryd.strconv_ParseUint_10_at32_range_var s (by omega) hp t' p' w h2).mono fun e w' ⟨N, he, _, _, hb⟩ => ⟨_, N, he, hb⟩
  | _ =>
    have hc := Any.strconv_ParseUint_10_at32_syntax_var Tryd.laysPu14 s (by omega) hp t p w h1
    change Calls Tryd.prog 31 _ _ _ at hc
    exact hc.mono fun e w' ⟨N, he, _, _, hb⟩ => ⟨_, N, he, hb⟩

/-! ### Cut -/
theorem cut_yes (s : ByteArray) (p : Nat) (w : World) (hs : s.size ≤ 2000) (hp : indexByte s.data.toList 46 = (p : Int)) (hlt : p < s.size) :
    Calls Tryd.prog 30 #[.string s, .string ⟨#[46]⟩] w fun e w' => e = .returned (.tuple #[.string (s.extract 0 p), .string (s.extract (p + 1) s.size), .bool true]) ∧ Below w.heap.size w w' := by
  have hi := fun W => Tryd.stringslite_Index_one s 46 W
  rw [hp] at hi
  clear hp
  have hc : Calls Tryd.prog 44 #[.string s, .string ⟨#[46]⟩] w fun e w' => e = .returned (.tuple #[.string (s.extract 0 p), .string (s.extract (p + 1) s.size), .bool true]) ∧ Below w.heap.size w w' := by
    go_enter Tryd.func44, Tryd.ntmps44
    go_wp2_with fail
    refine (hi _).mono ?_
    rintro e w' ⟨rfl, rfl⟩
    go_wp2_with fail
    have c1 : (0 : Int) ≤ (p : Int) := by omega
    have c2 : (p : Int) ≤ (s.size : Int) := by omega
    have c3 : (0 : Int) ≤ (p : Int) + 1 := by omega
    have c4 : (p : Int) + 1 ≤ (s.size : Int) := by omega
    have c5 : IntKind.i64.wrap ((p : Int) + 1) = (p : Int) + 1 := by rw [IntKind.wrap_i64]; omega
    have c6 : ((p : Int) + 1).toNat = p + 1 := by omega
    go_quiet (fail)
    go_wp2
    go_ret3
    exact ⟨rfl, drawn_below (drawn_one _ _)⟩
  go_enter Tryd.func30, Tryd.ntmps30
  go_wp2_with fail
  refine hc.mono ?_
  rintro e w' ⟨rfl, hb⟩
  go_wp2
  go_ret3
  exact ⟨rfl, hb⟩
theorem cut_no (s : ByteArray) (w : World) (hp : indexByte s.data.toList 46 = -1) :
    Calls Tryd.prog 30 #[.string s, .string ⟨#[46]⟩] w fun e w' => e = .returned (.tuple #[.string s, .string ⟨#[]⟩, .bool false]) ∧ Below w.heap.size w w' := by
  have hi := fun W => Tryd.stringslite_Index_one s 46 W
  rw [hp] at hi
  clear hp
  have hc : Calls Tryd.prog 44 #[.string s, .string ⟨#[46]⟩] w fun e w' => e = .returned (.tuple #[.string s, .string ⟨#[]⟩, .bool false]) ∧ Below w.heap.size w w' := by
    go_enter Tryd.func44, Tryd.ntmps44
    go_wp2_with fail
    refine (hi _).mono ?_
    rintro e w' ⟨rfl, rfl⟩
    go_wp2
    go_ret3
    exact ⟨rfl, Below.refl _ _⟩
  go_enter Tryd.func30, Tryd.ntmps30
  go_wp2_with fail
  refine hc.mono ?_
  rintro e w' ⟨rfl, hb⟩
  go_wp2
  go_ret3
  exact ⟨rfl, hb⟩
/-- Some two texts, no longer than s. -/
def CutSome (n : Nat) (w : World) (e : Ending) (w' : World) : Prop := ∃ (b1 b2 : ByteArray) (f : Bool), e = .returned (.tuple #[.string b1, .string b2, .bool f]) ∧ b1.size ≤ n ∧ b2.size ≤ n ∧ Below w.heap.size w w'
theorem extract_le (s : ByteArray) (a b : Nat) : (s.extract a b).size ≤ s.size := by simp; omega
theorem cut_some (s : ByteArray) (w : World) (hs : s.size ≤ 2000) : Calls Tryd.prog 30 #[.string s, .string ⟨#[46]⟩] w (CutSome s.size w) := by
  by_cases h : indexByte s.data.toList 46 = -1
  · exact (cut_no s w h).mono fun e w' ⟨he, hb⟩ => ⟨_, _, _, he, Nat.le_refl _, Nat.zero_le _, hb⟩
  · obtain ⟨p, hp⟩ : ∃ p : Nat, indexByte s.data.toList 46 = (p : Int) := by
      have := indexByte_ge s.data.toList 46
      exact ⟨(indexByte s.data.toList 46).toNat, by omega⟩
    have hlt : p < s.size := by
      have := (indexByte_some hp).1
      have h2 := (List.getElem?_eq_some_iff.1 this).1
      simpa using h2
    exact (cut_yes s p w hs hp hlt).mono fun e w' ⟨he, hb⟩ => ⟨_, _, _, he, extract_le _ _ _, extract_le _ _ _, hb⟩
theorem pidS_size (i k : Nat) (hi : i < 65536) (hk : k < 4294967296) : (pidS i k).size ≤ 16 := by
  have := pidT_len i k hi hk
  show (pidT i k).toArray.size ≤ 16
  simpa using this
theorem cut_pid (i k : Nat) (w : World) (hi : i < 65536) (hk : k < 4294967296) :
    Calls Tryd.prog 30 #[.string (pidS i k), .string ⟨#[46]⟩] w fun e w' => e = .returned (.tuple #[.string (decS i), .string (decS k), .bool true]) ∧ Below w.heap.size w w' := by
  have hl : (pidS i k).data.toList = pidT i k := rfl
  have hp : indexByte (pidS i k).data.toList 46 = ((decDigits i).length : Int) := by rw [hl]; exact pidT_index i k
  have hlt : (decDigits i).length < (pidS i k).size := by
    have := (List.getElem?_eq_some_iff.1 (indexByte_some hp).1).1
    simpa using this
  have e1 : (pidS i k).extract 0 (decDigits i).length = decS i := str_of (by rw [extract_data, hl, List.drop_zero, Nat.sub_zero, pidT_take])
  have e2 : (pidS i k).extract ((decDigits i).length + 1) (pidS i k).size = decS k := str_of (by rw [extract_to_end, hl, pidT_drop])
  have h := cut_yes (pidS i k) (decDigits i).length w (by have := pidS_size i k hi hk; omega) hp hlt
  rwa [e1, e2] at h

/-! ### Parse -/
/-- The answer of Parse. -/
def ParsesP (w : World) (q : Nat × Nat × Nat) (e : Ending) (w' : World) : Prop :=
  e = .returned (.tuple #[.agg #[.int .u16 (q.1 : Int), .int .u32 (q.2.1 : Int)], .int .i64 (q.2.2 : Int)]) ∧ Below w.heap.size w w'
theorem str_toList {a b : ByteArray} (h : a.toList = b.toList) : a = b := by
  rw [toList_data, toList_data] at h
  exact ByteArray.ext (Array.toList_inj.1 h)
set_option maxRecDepth 100000 in
theorem parse_yes (i k : Nat) (w : World) (hi : i < 65536) (hk : k < 4294967296) (ht : Pows w) :
    Calls Tryd.prog 15 #[.string (pidS i k)] w (ParsesP w (i, k, 0)) := by
  have hcut := fun W => cut_pid i k W hi hk
  have s16 : (decS i).size ≤ 20 := by have := nDigits_20 i (by omega); show (decDigits i).toArray.size ≤ 20; simpa using this
  have s32 : (decS k).size ≤ 20 := by have := nDigits_20 k (by omega); show (decDigits k).toArray.size ≤ 20; simpa using this
  have hp1 := fun W => pu16_ok (decS i) i W (by omega) (parseB_dec 16 i (by decide) (by omega))
  have hp2 := fun W => pu32_ok (decS k) k W (by omega) (parseB_dec 32 k (by decide) (by omega))
  have hpr := fun W h => print_any i k W hi hk h
  have hsz := pidS_size i k hi hk
  unfold PuOk at hp1 hp2
  generalize decS i = si at *
  generalize decS k = sk at *
  generalize pidS i k = s at *
  have wi : IntKind.u16.wrap (i : Int) = (i : Int) := by rw [IntKind.wrap_u16]; omega
  have wk : IntKind.u32.wrap (k : Int) = (k : Int) := by rw [IntKind.wrap_u32]; omega
  obtain ⟨w0, hw0⟩ : ∃ w0 : World, w0 = w.alloc (.cells #[.int .u16 0, .int .u32 0] 25) := ⟨_, rfl⟩
  have hz0 : Below w.heap.size w w0 := by rw [hw0]; exact (Below.refl _ _).alloc (Nat.le_refl w.heap.size) _
  have l0 : w.heap.size < w0.heap.size := by rw [hw0]; simp
  have q0 : w0.cell? ⟨w.heap.size, 0, none⟩ = some (.int .u16 0) := by rw [hw0]; go_simp
  have q1 : w0.cell? ⟨w.heap.size, 1, none⟩ = some (.int .u32 0) := by rw [hw0]; go_simp
  have r0 : w0.frozen? ⟨w.heap.size, 0, none⟩ = false := by rw [hw0]; go_simp
  have r1 : w0.frozen? ⟨w.heap.size, 1, none⟩ = false := by rw [hw0]; go_simp
  go_enter Tryd.func15, Tryd.ntmps15
  go_wp2_with fail
  rw [← hw0]
  clear hw0
  refine (hcut _).mono ?_
  rintro e w1 ⟨rfl, hb1⟩
  clear hcut
  go_wp2_with fail
  refine (hp1 _).mono ?_
  rintro e w2 ⟨rfl, hb2⟩
  have hz2 := hb1.trans (hb2.mono hb1.size)
  clear hp1 hb1 hb2
  go_wp2_with fail
  refine (hp2 _).mono ?_
  rintro e w3 ⟨rfl, hb3⟩
  have hz3 := hz2.trans (hb3.mono hz2.size)
  have hs3 := hz3.size
  have hz4 := hz3.alloc hs3 (.cells #[.int .u16 (i : Int), .int .u32 (k : Int)] 25)
  have hpr1 := hpr _ (ht.below (hz0.trans (hz4.mono hz0.size)))
  clear hp2 hpr hb3 hz2 hz3
  go_wp2_with fail
  refine hpr1.mono ?_
  rintro e w5 ⟨rfl, hb5⟩
  simp only [World.size_alloc] at hb5
  have p0 : w5.cell? ⟨w3.heap.size, 0, none⟩ = some (.int .u16 (i : Int)) := (hb5.cell (by simp)).trans (by go_simp)
  have p1 : w5.cell? ⟨w3.heap.size, 1, none⟩ = some (.int .u32 (k : Int)) := (hb5.cell (by simp)).trans (by go_simp)
  have hz5 := hz4.trans (hb5.mono (by omega))
  have Q0 := (hz5.cell (p := ⟨w.heap.size, 0, none⟩) l0).trans q0
  have Q1 := (hz5.cell (p := ⟨w.heap.size, 1, none⟩) l0).trans q1
  have R0 := (hz5.frozen (p := ⟨w.heap.size, 0, none⟩) l0).trans r0
  have R1 := (hz5.frozen (p := ⟨w.heap.size, 1, none⟩) l0).trans r1
  have hzz := hz0.trans (hz5.mono hz0.size)
  clear hpr1 hb5 hz4 hz5 hz0 q0 q1 r0 r1
  go_wp2_with fail
  exact bodyPost_ret (v := .tuple #[.agg #[.int .u16 (i : Int), .int .u32 (k : Int)], .int .i64 0]) (by simp [results, Tryd.results15, go_sem, Q0, Q1]) rfl ⟨rfl, (hzz.setCell (Nat.le_refl _) _).setCell (Nat.le_refl _) _⟩
set_option maxRecDepth 100000 in
theorem parse_no (s : ByteArray) (w : World) (hs : s.size ≤ 2000) (ht : Pows w) (hE : Errs w) (h : ∀ i k, i < 65536 → k < 4294967296 → s.data.toList ≠ pidT i k) :
    Calls Tryd.prog 15 #[.string s] w (ParsesP w (0, 0, 5)) := by
  have hcut := fun W => cut_some s W hs
  unfold CutSome at hcut
  obtain ⟨w0, hw0⟩ : ∃ w0 : World, w0 = w.alloc (.cells #[.int .u16 0, .int .u32 0] 25) := ⟨_, rfl⟩
  have hz0 : Below w.heap.size w w0 := by rw [hw0]; exact (Below.refl _ _).alloc (Nat.le_refl w.heap.size) _
  have l0 : w.heap.size < w0.heap.size := by rw [hw0]; simp
  have q0 : w0.cell? ⟨w.heap.size, 0, none⟩ = some (.int .u16 0) := by rw [hw0]; go_simp
  have q1 : w0.cell? ⟨w.heap.size, 1, none⟩ = some (.int .u32 0) := by rw [hw0]; go_simp
  have r0 : w0.frozen? ⟨w.heap.size, 0, none⟩ = false := by rw [hw0]; go_simp
  have r1 : w0.frozen? ⟨w.heap.size, 1, none⟩ = false := by rw [hw0]; go_simp
  go_enter Tryd.func15, Tryd.ntmps15
  go_wp2_with fail
  rw [← hw0]
  clear hw0
  refine (hcut _).mono ?_
  rintro e w1 ⟨b1, b2, f, rfl, hb1s, hb2s, hb1⟩
  clear hcut
  by_cases ho1 : ∃ u, parseUintB 16 b1.data.toList = .ok u
  · obtain ⟨u, hu⟩ := ho1
    have hu' := parseB_lt 16 _ u hu
    have hu16 : u < 65536 := by omega
    have hp1 := pu16_ok b1 u w1 (by omega) hu
    unfold PuOk at hp1
    clear hu hu'
    go_wp2_with fail
    refine hp1.mono ?_
    rintro e w2 ⟨rfl, hb2⟩
    have hz2 := hb1.trans (hb2.mono hb1.size)
    clear hp1 hb1 hb2
    by_cases ho2 : ∃ v, parseUintB 32 b2.data.toList = .ok v
    · obtain ⟨v, hv⟩ := ho2
      have hv' := parseB_lt 32 _ v hv
      have hv32 : v < 4294967296 := by omega
      have hp2 := pu32_ok b2 v w2 (by omega) hv
      unfold PuOk at hp2
      clear hv hv'
      have hpr := fun W h => print_any u v W hu16 hv32 h
      have hne : ((pidS u v).toList == s.toList) = false := beq_eq_false_iff_ne.2 fun e => h u v hu16 hv32 (by rw [← str_toList e]; rfl)
      have hsz := pidS_size u v hu16 hv32
      generalize pidS u v = t at *
      have wi : IntKind.u16.wrap (u : Int) = (u : Int) := by rw [IntKind.wrap_u16]; omega
      have wk : IntKind.u32.wrap (v : Int) = (v : Int) := by rw [IntKind.wrap_u32]; omega
      go_wp2_with fail
      refine hp2.mono ?_
      rintro e w3 ⟨rfl, hb3⟩
      have hz3 := hz2.trans (hb3.mono hz2.size)
      have hs3 := hz3.size
      have hz4 := hz3.alloc hs3 (.cells #[.int .u16 (u : Int), .int .u32 (v : Int)] 25)
      have hpr1 := hpr _ (ht.below (hz0.trans (hz4.mono hz0.size)))
      clear hp2 hpr hb3 hz2 hz3
      go_wp2_with fail
      refine hpr1.mono ?_
      rintro e w5 ⟨rfl, hb5⟩
      simp only [World.size_alloc] at hb5
      have hz5 := hz4.trans (hb5.mono (by omega))
      have Q0 := (hz5.cell (p := ⟨w.heap.size, 0, none⟩) l0).trans q0
      have Q1 := (hz5.cell (p := ⟨w.heap.size, 1, none⟩) l0).trans q1
      have R0 := (hz5.frozen (p := ⟨w.heap.size, 0, none⟩) l0).trans r0
      have R1 := (hz5.frozen (p := ⟨w.heap.size, 1, none⟩) l0).trans r1
      have hzz := hz0.trans (hz5.mono hz0.size)
      clear hpr1 hb5 hz4 hz5 hz0 q0 q1 r0 r1 h
      go_wp2_with fail
      exact bodyPost_ret (v := .tuple #[.agg #[.int .u16 0, .int .u32 0], .int .i64 5]) (by simp [results, Tryd.results15, go_sem, Q0, Q1]) rfl ⟨rfl, (hzz.setCell (Nat.le_refl _) _).setCell (Nat.le_refl _) _⟩
    · have hp2 := pu32_err b2 w2 (by omega) (hE.below (hz0.trans (hz2.mono hz0.size))) (fun v hv => ho2 ⟨v, hv⟩)
      unfold PuErr at hp2
      clear ho2
      go_wp2_with fail
      refine hp2.mono ?_
      rintro e w3 ⟨x, N, rfl, hb3⟩
      have hz5 := hz2.trans (hb3.mono hz2.size)
      have Q0 := (hz5.cell (p := ⟨w.heap.size, 0, none⟩) l0).trans q0
      have Q1 := (hz5.cell (p := ⟨w.heap.size, 1, none⟩) l0).trans q1
      have R0 := (hz5.frozen (p := ⟨w.heap.size, 0, none⟩) l0).trans r0
      have R1 := (hz5.frozen (p := ⟨w.heap.size, 1, none⟩) l0).trans r1
      have hzz := hz0.trans (hz5.mono hz0.size)
      clear hp2 hb3 hz2 hz5 hz0 q0 q1 r0 r1 h
      go_wp2_with fail
      exact bodyPost_ret (v := .tuple #[.agg #[.int .u16 0, .int .u32 0], .int .i64 5]) (by simp [results, Tryd.results15, go_sem, Q0, Q1]) rfl ⟨rfl, (hzz.setCell (Nat.le_refl _) _).setCell (Nat.le_refl _) _⟩
  · have hp1 := pu16_err b1 w1 (by omega) (hE.below (hz0.trans (hb1.mono hz0.size))) (fun v hv => ho1 ⟨v, hv⟩)
    unfold PuErr at hp1
    clear ho1
    go_wp2_with fail
    refine hp1.mono ?_
    rintro e w3 ⟨x, N, rfl, hb3⟩
    have hz5 := hb1.trans (hb3.mono hb1.size)
    have Q0 := (hz5.cell (p := ⟨w.heap.size, 0, none⟩) l0).trans q0
    have Q1 := (hz5.cell (p := ⟨w.heap.size, 1, none⟩) l0).trans q1
    have R0 := (hz5.frozen (p := ⟨w.heap.size, 0, none⟩) l0).trans r0
    have R1 := (hz5.frozen (p := ⟨w.heap.size, 1, none⟩) l0).trans r1
    have hzz := hz0.trans (hz5.mono hz0.size)
    clear hp1 hb3 hb1 hz5 hz0 q0 q1 r0 r1 h
    go_wp2_with fail
    exact bodyPost_ret (v := .tuple #[.agg #[.int .u16 0, .int .u32 0], .int .i64 5]) (by simp [results, Tryd.results15, go_sem, Q0, Q1]) rfl ⟨rfl, (hzz.setCell (Nat.le_refl _) _).setCell (Nat.le_refl _) _⟩
end Go.Proofs.YtcnnpbeadldflaaDoor
