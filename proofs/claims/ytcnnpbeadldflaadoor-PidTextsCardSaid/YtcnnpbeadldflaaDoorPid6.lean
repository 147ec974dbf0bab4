/-
  Layer 3: texts read by the document's answer.
-/
import Derived.Test.YtcnnpbeadldflaaDoorPid5
import Derived.Test.YtcnnpbeadldflaaDoorBytes1
import Derived.Laws.Strings3
namespace Go.Proofs.YtcnnpbeadldflaaDoor
open Go.RowKit Go.Sort
open Go.Lib hiding intOf
set_option linter.unusedVariables false
set_option linter.unusedSimpArgs false

theorem char_at (s : ByteArray) (l : List UInt8) (hl : l = s.data.toList) (k : Nat) (K : Int) (hK : K = (k : Int)) (h : k < l.length) (W : World) :
    (Instr.index 9 (.string s) (.int .i64 K)).run Tryd.prog W = .ok (.int .u8 (l[k].toNat : Int)) W := by
  subst hK; subst hl
  have hs : k < s.size := by rw [Array.length_toList] at h; exact h
  rw [run_index_string W 9 s .i64 _ Tryd.underlying9, dif_pos ⟨by omega, by omega⟩]
  rfl
theorem valF_lt' (l : List UInt8) (acc : Nat) (h : allDig l) : valF acc l < (acc + 1) * 10 ^ l.length := by
  induction l generalizing acc with
  | nil => simp [valF]
  | cons c r ih =>
    have h1 : 48 ≤ c.toNat ∧ c.toNat ≤ 57 := h c (List.mem_cons_self ..)
    have h2 := ih (acc * 10 + (c.toNat - 48)) fun x hx => h x (List.mem_cons_of_mem _ hx)
    have h3 : valF acc (c :: r) = valF (acc * 10 + (c.toNat - 48)) r := rfl
    have h4 : (acc * 10 + (c.toNat - 48) + 1) * 10 ^ r.length ≤ ((acc + 1) * 10) * 10 ^ r.length := Nat.mul_le_mul_right _ (by omega)
    rw [h3, List.length_cons, Nat.pow_succ, Nat.mul_comm (10 ^ r.length) 10, ← Nat.mul_assoc]
    omega
theorem valF_lt (l : List UInt8) (h : allDig l) : valF 0 l < 10 ^ l.length := by
  have := valF_lt' l 0 h
  simpa using this
/-- What the loop of 'number' knows. -/
structure NumInv (l : List UInt8) (k v : Nat) : Prop where
  all : allDig (l.take k)
  val : v = valF 0 (l.take k)
theorem NumInv.start (l : List UInt8) : NumInv l 0 0 := ⟨fun c hc => by simp at hc, by simp [valF]⟩
theorem NumInv.step {l : List UInt8} {k v y : Nat} (h : NumInv l k v) (hk : k < l.length) (hy : y = l[k].toNat) (h1 : 48 ≤ y) (h2 : y ≤ 57) : NumInv l (k + 1) (v * 10 + (y - 48)) := by
  have e : l.take (k + 1) = l.take k ++ [l[k]] := by rw [List.take_succ_eq_append_getElem hk]
  refine ⟨fun c hc => ?_, ?_⟩
  · rw [e] at hc
    rcases List.mem_append.1 hc with hc | hc
    · exact h.all c hc
    · rw [List.mem_singleton] at hc
      subst hc
      exact ⟨by omega, by omega⟩
  · rw [e, valF_snoc, ← h.val, hy]
theorem NumInv.fits {l : List UInt8} {k v : Nat} (h : NumInv l k v) (hk : k ≤ 12) : v < 1000000000000 := by
  have h1 := valF_lt _ h.all
  rw [← h.val] at h1
  have h2 : (l.take k).length ≤ 12 := Nat.le_trans (List.length_take_le _ _) hk
  have h3 : 10 ^ (l.take k).length ≤ 10 ^ 12 := Nat.pow_le_pow_right (by decide) h2
  have h4 : 10 ^ 12 = 1000000000000 := by decide
  omega
theorem NumInv.done {l : List UInt8} {k v : Nat} (h : NumInv l k v) (hk : l.length ≤ k) : v = valF 0 l := by
  have := h.val
  rwa [List.take_of_length_le hk] at this
theorem NumInv.bad {l : List UInt8} {k : Nat} (hk : k < l.length) (h : l[k].toNat < 48 ∨ 57 < l[k].toNat) : ¬ allDig l := fun ha => by
  have h1 : 48 ≤ l[k].toNat ∧ l[k].toNat ≤ 57 := ha l[k] (List.getElem_mem hk)
  omega
/-- The answer of 'number'. -/
def NumP (l : List UInt8) (m : Nat) (w : World) (e : Ending) (w' : World) : Prop :=
  (∃ (x : Nat) (b : Bool), e = .returned (.tuple #[.int .u64 (x : Int), .bool b]) ∧ (allDig l → l ≠ [] → l.length ≤ 12 → x = valF 0 l ∧ b = decide (valF 0 l ≤ m))) ∧ w = w'
theorem NumP.mk_bad {l : List UInt8} {m : Nat} {w : World} (h : ¬ (allDig l ∧ l ≠ [] ∧ l.length ≤ 12)) : NumP l m w (.returned (.tuple #[.int .u64 0, .bool false])) w :=
  ⟨⟨0, false, rfl, fun a b c => absurd ⟨a, b, c⟩ h⟩, rfl⟩
theorem NumP.mk_ok {l : List UInt8} {m v : Nat} {w : World} (h : v = valF 0 l) : NumP l m w (.returned (.tuple #[.int .u64 (v : Int), .bool (decide (v ≤ m))])) w :=
  ⟨⟨v, _, rfl, fun _ _ _ => ⟨h, by rw [h]⟩⟩, rfl⟩
set_option maxRecDepth 100000 in
theorem number_txt (s : ByteArray) (l : List UInt8) (m : Nat) (w : World) (hl : l = s.data.toList) (hs : s.size ≤ 2000) (hm : m < 4294967296) :
    Calls Tryd.prog 32 #[.string s, .int .u64 (m : Int)] w (NumP l m w) := by
  have hlen : l.length = s.size := by rw [hl]; exact Array.length_toList
  have hch := fun (k : Nat) (hk : k < l.length) W => char_at s l hl k (k : Int) rfl hk W
  by_cases h0 : l = []
  · have hb : NumP l m w (.returned (.tuple #[.int .u64 0, .bool false])) w := NumP.mk_bad (fun h => h.2.1 h0)
    have HB := hide hb
    have e1 : s.toList = [] := by rw [toList_data, ← hl, h0]
    clear hb hl hch hlen
    go_enter Tryd.func32, Tryd.ntmps32
    go_wp2_with fail
    go_ret2
    exact HB.out
  · have hne : s.toList.isEmpty = false := by
      rw [toList_data, ← hl]
      cases l with
      | nil => exact absurd rfl h0
      | cons => rfl
    have hne' : ¬ s.toList = [] := by rw [toList_data, ← hl]; exact h0
    by_cases h12 : 12 < s.size
    · have hb : NumP l m w (.returned (.tuple #[.int .u64 0, .bool false])) w := NumP.mk_bad (fun h => by omega)
      have HB := hide hb
      clear hb hl hch hlen
      go_enter Tryd.func32, Tryd.ntmps32
      go_wp2_with fail
      go_ret2
      exact HB.out
    · have HL := hide hl
      have HLen := hide hlen
      have hn12 : s.size ≤ 12 := by omega
      have hI := NumInv.start l
      have HC := hide hch
      clear hl hlen hch
      go_enter Tryd.func32, Tryd.ntmps32
      go_wp2
      go_loop [6, 7] (fun v i => ∃ k u : Nat, k ≤ s.size ∧ i = .int .i64 k ∧ v = .int .u64 (u : Int) ∧ NumInv l k u) (fun _ i => s.size - (intOf i).toNat)
      case atStart => exact ⟨0, 0, Nat.zero_le _, rfl, rfl, hI⟩
      case round =>
        obtain ⟨k, u, hk, rfl, rfl, hinv⟩ := hrel
        have hu := hinv.fits (by omega)
        by_cases hlt : k < s.size
        · have hkl : k < l.length := by rw [HLen.out]; exact hlt
          have hc := HC.out k hkl
          obtain ⟨y, hy⟩ : ∃ y, y = l[k].toNat := ⟨_, rfl⟩
          rw [← hy] at hc
          have hy256 : y < 256 := by rw [hy]; exact l[k].toNat_lt
          have HY := hide hy
          clear hy
          by_cases b1 : y < 48
          · have hb : NumP l m w (.returned (.tuple #[.int .u64 0, .bool false])) w := NumP.mk_bad (fun h => NumInv.bad hkl (by rw [← HY.out]; exact .inl b1) h.1)
            have HB := hide hb
            have b1' : (y : Int) < 48 := by omega
            clear hb
            go_wp2
            go_ret2
            exact HB.out
          · by_cases b2 : 57 < y
            · have hb : NumP l m w (.returned (.tuple #[.int .u64 0, .bool false])) w := NumP.mk_bad (fun h => NumInv.bad hkl (by rw [← HY.out]; exact .inr b2) h.1)
              have HB := hide hb
              have b1' : ¬ (y : Int) < 48 := by omega
              have b2' : (57 : Int) < (y : Int) := by omega
              clear hb
              go_wp2
              go_ret2
              exact HB.out
            · have hst := hinv.step hkl HY.out (by omega) (by omega)
              have b1' : (48 : Int) ≤ (y : Int) := by omega
              have b2' : (y : Int) ≤ 57 := by omega
              go_wp2
              go_round
              case rel => exact ⟨k + 1, u * 10 + (y - 48), by omega, by go_num, by congr 1; omega, hst⟩
              case measure => simp [intOf]; omega
        · obtain rfl : k = s.size := by omega
          have hb : NumP l m w (.returned (.tuple #[.int .u64 (u : Int), .bool (decide (u ≤ m))])) w := NumP.mk_ok (hinv.done (by rw [HLen.out]; exact Nat.le_refl _))
          have HB := hide hb
          clear hb
          go_wp2
          go_ret2
          exact HB.out
/-- A process's numbers, read. -/
theorem num_dec (n m : Nat) (w : World) (hn : n < 4294967296) (hm : m < 4294967296) :
    Calls Tryd.prog 32 #[.string (decS n), .int .u64 (m : Int)] w fun e w' => e = .returned (.tuple #[.int .u64 (n : Int), .bool (decide (n ≤ m))]) ∧ w = w' := by
  have hsz : (decS n).size ≤ 20 := by have := nDigits_20 n (by omega); show (decDigits n).toArray.size ≤ 20; simpa using this
  have h10 := dec_len n 9 (by omega)
  obtain ⟨h1, h2⟩ := dec_all n
  exact (number_txt (decS n) (decDigits n) m w rfl (by omega) hm).mono fun e w' ⟨⟨x, b, he, hx⟩, hw⟩ => by
    obtain ⟨e1, e2⟩ := hx h1 (dec_ne n) (by omega)
    rw [h2] at e1 e2
    subst e1; subst e2
    exact ⟨he, hw⟩
/-- Something is read. -/
def NumSome (w : World) (e : Ending) (w' : World) : Prop := (∃ (x : Nat) (b : Bool), e = .returned (.tuple #[.int .u64 (x : Int), .bool b])) ∧ w = w'
theorem num_some (s : ByteArray) (m : Nat) (w : World) (hs : s.size ≤ 2000) (hm : m < 4294967296) : Calls Tryd.prog 32 #[.string s, .int .u64 (m : Int)] w (NumSome w) :=
  (number_txt s _ m w rfl hs hm).mono fun e w' ⟨⟨x, b, he, _⟩, hw⟩ => ⟨⟨x, b, he⟩, hw⟩
set_option maxRecDepth 100000 in
theorem rparse_yes (i k : Nat) (w : World) (hi : i < 65536) (hk : k < 4294967296) :
    Calls Tryd.prog 16 #[.string (pidS i k)] w (ParsesP w (i, k, 0)) := by
  obtain ⟨p, hp⟩ : ∃ p, p = (decDigits i).length := ⟨_, rfl⟩
  have hl : pidT i k = (pidS i k).data.toList := rfl
  have hix : indexByte (pidT i k) 46 = (p : Int) := by rw [hp]; exact pidT_index i k
  obtain ⟨hat, hbefore⟩ := indexByte_some hix
  have hplt : p < (pidT i k).length := (List.getElem?_eq_some_iff.1 hat).1
  have hch := fun (j : Nat) (hj : j < (pidT i k).length) W => char_at (pidS i k) (pidT i k) hl j (j : Int) rfl hj W
  have hlen : (pidT i k).length = (pidS i k).size := by rw [hl]; exact Array.length_toList
  have e1 : (pidS i k).extract 0 p = decS i := str_of (by rw [extract_data, ← hl, List.drop_zero, Nat.sub_zero, hp, pidT_take])
  have e2 : (pidS i k).extract (p + 1) (pidS i k).size = decS k := str_of (by rw [extract_to_end, ← hl, hp, pidT_drop])
  have hn1 := fun W => num_dec i 65535 W (by omega) (by decide)
  have hn2 := fun W => num_dec k 4294967295 W (by omega) (by decide)
  rw [decide_eq_true (show i ≤ 65535 by omega)] at hn1
  rw [decide_eq_true (show k ≤ 4294967295 by omega)] at hn2
  have hpr := fun W => rprint_any i k W hi hk
  have hsz := pidS_size i k hi hk
  rw [← e1] at hn1
  rw [← e2] at hn2
  clear hix hl e1 e2 hp
  generalize pidT i k = l at *
  generalize pidS i k = s at *
  have HC := hide hch
  have HB := hide hbefore
  have HA := hide hat
  have hplt' : p < s.size := by rw [← hlen]; exact hplt
  have HLen := hide hlen
  have wi : IntKind.u16.wrap (i : Int) = (i : Int) := by rw [IntKind.wrap_u16]; omega
  have wk : IntKind.u32.wrap (k : Int) = (k : Int) := by rw [IntKind.wrap_u32]; omega
  clear hch hbefore hat hlen
  obtain ⟨w0, hw0⟩ : ∃ w0 : World, w0 = w.alloc (.cells #[.int .u16 0, .int .u32 0] 25) := ⟨_, rfl⟩
  have hz0 : Below w.heap.size w w0 := by rw [hw0]; exact (Below.refl _ _).alloc (Nat.le_refl w.heap.size) _
  have l0 : w.heap.size < w0.heap.size := by rw [hw0]; simp
  have q0 : w0.cell? ⟨w.heap.size, 0, none⟩ = some (.int .u16 0) := by rw [hw0]; go_simp
  have q1 : w0.cell? ⟨w.heap.size, 1, none⟩ = some (.int .u32 0) := by rw [hw0]; go_simp
  have r0 : w0.frozen? ⟨w.heap.size, 0, none⟩ = false := by rw [hw0]; go_simp
  have r1 : w0.frozen? ⟨w.heap.size, 1, none⟩ = false := by rw [hw0]; go_simp
  go_enter Tryd.func16, Tryd.ntmps16
  go_wp2
  rw [← hw0]
  clear hw0
  go_loop [4] (fun i => ∃ j : Nat, j ≤ p ∧ i = .int .i64 j) (fun i => s.size - (intOf i).toNat)
  case atStart => exact ⟨0, Nat.zero_le _, rfl⟩
  case round =>
    obtain ⟨j, hj, rfl⟩ := hrel
    by_cases hjp : j = p
    · subst hjp
      have hc := HC.out j hplt
      have h46 : l[j].toNat = 46 := by
        have := HA.out
        rw [List.getElem?_eq_getElem hplt] at this
        rw [Option.some.inj this]; rfl
      rw [h46] at hc
      clear h46
      go_wp2_with fail
      refine (hn1 _).mono ?_
      rintro e w' ⟨rfl, rfl⟩
      clear hn1
      go_wp2_with fail
      refine (hn2 _).mono ?_
      rintro e w' ⟨rfl, rfl⟩
      clear hn2
      go_wp2_with fail
      refine (hpr _).mono ?_
      rintro e w5 ⟨rfl, hb5⟩
      simp only [World.size_alloc] at hb5
      have p0 : w5.cell? ⟨w0.heap.size, 0, none⟩ = some (.int .u16 (i : Int)) := (hb5.cell (by simp)).trans (by go_simp)
      have p1 : w5.cell? ⟨w0.heap.size, 1, none⟩ = some (.int .u32 (k : Int)) := (hb5.cell (by simp)).trans (by go_simp)
      have hz5 := ((Below.refl _ _).alloc (Nat.le_refl w0.heap.size) (.cells #[.int .u16 (i : Int), .int .u32 (k : Int)] 25)).trans (hb5.mono (by omega))
      have Q0 := (hz5.cell (p := ⟨w.heap.size, 0, none⟩) l0).trans q0
      have Q1 := (hz5.cell (p := ⟨w.heap.size, 1, none⟩) l0).trans q1
      have R0 := (hz5.frozen (p := ⟨w.heap.size, 0, none⟩) l0).trans r0
      have R1 := (hz5.frozen (p := ⟨w.heap.size, 1, none⟩) l0).trans r1
      have hzz := hz0.trans (hz5.mono hz0.size)
      clear hpr hb5 hz5 hz0 q0 q1 r0 r1
      go_wp2_with fail
      exact bodyPost_ret (v := .tuple #[.agg #[.int .u16 (i : Int), .int .u32 (k : Int)], .int .i64 0]) (by simp [results, Tryd.results16, go_sem, Q0, Q1]) rfl ⟨rfl, (hzz.setCell (Nat.le_refl _) _).setCell (Nat.le_refl _) _⟩
    · have hlt : j < p := by omega
      have hjl : j < l.length := by omega
      have hjs : j < s.size := by omega
      have hc := HC.out j hjl
      obtain ⟨y, hy⟩ : ∃ y, y = l[j].toNat := ⟨_, rfl⟩
      have hy46 : ((y : Int) != 46) = true := by
        have h1 := HB.out j hlt
        rw [List.getElem?_eq_getElem hjl] at h1
        have h2 : y ≠ 46 := fun e => h1 (by congr 1; apply UInt8.toNat_inj.1; rw [← hy, e]; rfl)
        simp; omega
      rw [← hy] at hc
      clear hy
      go_wp2
      go_round
      case rel => exact ⟨j + 1, by omega, by go_num⟩
      case measure => simp [intOf]; omega
theorem wrap16_nat (x : Nat) : ∃ y : Nat, IntKind.u16.wrap (x : Int) = (y : Int) ∧ y < 65536 := ⟨x % 65536, by rw [IntKind.wrap_u16]; omega, by omega⟩
theorem wrap32_nat (x : Nat) : ∃ y : Nat, IntKind.u32.wrap (x : Int) = (y : Int) ∧ y < 4294967296 := ⟨x % 4294967296, by rw [IntKind.wrap_u32]; omega, by omega⟩
set_option maxRecDepth 100000 in
theorem rparse_no (s : ByteArray) (w : World) (hs : s.size ≤ 2000) (h : ∀ i k, i < 65536 → k < 4294967296 → s.data.toList ≠ pidT i k) :
    Calls Tryd.prog 16 #[.string s] w (ParsesP w (0, 0, 5)) := by
  obtain ⟨l, hl⟩ : ∃ l, l = s.data.toList := ⟨_, rfl⟩
  have hch := fun (j : Nat) (hj : j < l.length) W => char_at s l hl j (j : Int) rfl hj W
  have hlen : l.length = s.size := by rw [hl]; exact Array.length_toList
  have hn := fun (b : ByteArray) (m : Nat) W (hb : b.size ≤ 2000) (hm : m < 4294967296) => num_some b m W hb hm
  unfold NumSome at hn
  have H := hide h
  have HC := hide hch
  have HLen := hide hlen
  clear hch hlen h hl
  obtain ⟨w0, hw0⟩ : ∃ w0 : World, w0 = w.alloc (.cells #[.int .u16 0, .int .u32 0] 25) := ⟨_, rfl⟩
  have hz0 : Below w.heap.size w w0 := by rw [hw0]; exact (Below.refl _ _).alloc (Nat.le_refl w.heap.size) _
  have l0 : w.heap.size < w0.heap.size := by rw [hw0]; simp
  have q0 : w0.cell? ⟨w.heap.size, 0, none⟩ = some (.int .u16 0) := by rw [hw0]; go_simp
  have q1 : w0.cell? ⟨w.heap.size, 1, none⟩ = some (.int .u32 0) := by rw [hw0]; go_simp
  have r0 : w0.frozen? ⟨w.heap.size, 0, none⟩ = false := by rw [hw0]; go_simp
  have r1 : w0.frozen? ⟨w.heap.size, 1, none⟩ = false := by rw [hw0]; go_simp
  go_enter Tryd.func16, Tryd.ntmps16
  go_wp2
  rw [← hw0]
  clear hw0
  go_loop [4] (fun i => ∃ j : Nat, j ≤ s.size ∧ i = .int .i64 j) (fun i => s.size - (intOf i).toNat)
  case atStart => exact ⟨0, Nat.zero_le _, rfl⟩
  case round =>
    obtain ⟨j, hj, rfl⟩ := hrel
    by_cases hlt : j < s.size
    · have hjl : j < l.length := by rw [HLen.out]; exact hlt
      have hc := HC.out j hjl
      obtain ⟨y, hy⟩ : ∃ y, y = l[j].toNat := ⟨_, rfl⟩
      rw [← hy] at hc
      clear hy
      by_cases hy46 : y = 46
      · subst hy46
        have hj1 : j + 1 ≤ s.size := by omega
        go_wp2_with fail
        refine (hn _ 65535 _ (Nat.le_trans (extract_le _ _ _) hs) (by decide)).mono ?_
        rintro e w' ⟨⟨a, ok, rfl⟩, rfl⟩
        go_wp2_with fail
        refine (hn _ 4294967295 _ (Nat.le_trans (extract_le _ _ _) hs) (by decide)).mono ?_
        rintro e w' ⟨⟨b, is, rfl⟩, rfl⟩
        obtain ⟨u, hu, hu16⟩ := wrap16_nat a
        obtain ⟨v, hv, hv32⟩ := wrap32_nat b
        have hpr := fun W => rprint_any u v W hu16 hv32
        have hne : ((pidS u v).toList == s.toList) = false := beq_eq_false_iff_ne.2 fun e => H.out u v hu16 hv32 (by rw [← str_toList e]; rfl)
        have hsz := pidS_size u v hu16 hv32
        clear hn
        generalize pidS u v = t at *
        have hz9 := (Below.refl w0.heap.size w0).alloc (Nat.le_refl w0.heap.size) (.cells #[.int .u16 (u : Int), .int .u32 (v : Int)] 25)
        cases ok with
        | true =>
          cases is with
          | true =>
            go_wp2_with fail
            refine (hpr _).mono ?_
            rintro e w5 ⟨rfl, hb5⟩
            simp only [World.size_alloc] at hb5
            have hz5 := hz9.trans (hb5.mono (by omega))
            have Q0 := (hz5.cell (p := ⟨w.heap.size, 0, none⟩) l0).trans q0
            have Q1 := (hz5.cell (p := ⟨w.heap.size, 1, none⟩) l0).trans q1
            have R0 := (hz5.frozen (p := ⟨w.heap.size, 0, none⟩) l0).trans r0
            have R1 := (hz5.frozen (p := ⟨w.heap.size, 1, none⟩) l0).trans r1
            have hzz := hz0.trans (hz5.mono hz0.size)
            clear hpr hb5 hz5 hz0 q0 q1 r0 r1 hz9
            go_wp2_with fail
            exact bodyPost_ret (v := .tuple #[.agg #[.int .u16 0, .int .u32 0], .int .i64 5]) (by simp [results, Tryd.results16, go_sem, Q0, Q1]) rfl ⟨rfl, (hzz.setCell (Nat.le_refl _) _).setCell (Nat.le_refl _) _⟩
          | false =>
            clear hpr
            clear hz9
            go_wp2_with fail
            exact bodyPost_ret (v := .tuple #[.agg #[.int .u16 0, .int .u32 0], .int .i64 5]) (by simp [results, Tryd.results16, go_sem, q0, q1, l0]) rfl ⟨rfl, ((hz0.setCell (Nat.le_refl _) _).setCell (Nat.le_refl _) _).alloc (by simp; omega) _⟩
        | false =>
          clear hpr
          clear hz9
          go_wp2_with fail
          exact bodyPost_ret (v := .tuple #[.agg #[.int .u16 0, .int .u32 0], .int .i64 5]) (by simp [results, Tryd.results16, go_sem, q0, q1, l0]) rfl ⟨rfl, ((hz0.setCell (Nat.le_refl _) _).setCell (Nat.le_refl _) _).alloc (by simp; omega) _⟩
      · have hyb : ((y : Int) != 46) = true := by simp; omega
        clear hn
        go_wp2
        go_round
        case rel => exact ⟨j + 1, by omega, by go_num⟩
        case measure => simp [intOf]; omega
    · clear hn
      go_wp2
      exact bodyPost_ret (v := .tuple #[.agg #[.int .u16 0, .int .u32 0], .int .i64 5]) (by simp [results, Tryd.results16, go_sem, q0, q1]) rfl ⟨rfl, (hz0.setCell (Nat.le_refl _) _).setCell (Nat.le_refl _) _⟩
end Go.Proofs.YtcnnpbeadldflaaDoor
