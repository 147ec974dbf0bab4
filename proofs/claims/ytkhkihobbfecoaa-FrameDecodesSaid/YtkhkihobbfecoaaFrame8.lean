/-
  Frames: the contract of Decode: what is refused ahead of the fields.
-/
import Derived.Test.YtkhkihobbfecoaaFrame2
import Derived.Test.YtkhkihobbfecoaaFrame7
namespace Go.Proofs.Ytkhkihobbfecoaa
open Go.RowKit
set_option linter.unusedVariables false
set_option linter.unusedSimpArgs false

theorem decE_1 {l : List UInt8} (h : l.length < 12) : decE l = 2 := by unfold decE; rw [if_pos h]
theorem decE_2 {l : List UInt8} (h : 12 ≤ l.length) (h2 : l.take 3 ≠ [86, 83, 1]) : decE l = 6 := by unfold decE; rw [if_neg (by omega), if_pos h2]
theorem decE_3 {l : List UInt8} (h : 12 ≤ l.length) (h2 : l.take 3 = [86, 83, 1]) (h3 : numL ((l.drop 4).take 4) ≠ l.length) : decE l = 5 := by
  unfold decE; rw [if_neg (by omega), if_neg (by simpa using h2), if_pos h3]
theorem decE_4 {l : List UInt8} (h : 12 ≤ l.length) (h2 : l.take 3 = [86, 83, 1]) (h3 : numL ((l.drop 4).take 4) = l.length) (h4 : numL (l.drop (l.length - 4)) ≠ sumN (l.take (l.length - 4))) : decE l = 4 := by
  unfold decE; rw [if_neg (by omega), if_neg (by simpa using h2), if_neg (by simpa using h3), if_pos h4]
theorem decE_5 {l : List UInt8} (h : 12 ≤ l.length) (h2 : l.take 3 = [86, 83, 1]) (h3 : numL ((l.drop 4).take 4) = l.length) (h4 : numL (l.drop (l.length - 4)) = sumN (l.take (l.length - 4))) (h5 : fieldsF ((l.take (l.length - 4)).drop 8) = none) : decE l = 5 := by
  unfold decE; rw [if_neg (by omega), if_neg (by simpa using h2), if_neg (by simpa using h3), if_neg (by simpa using h4), h5]
theorem decE_6 {l r : List UInt8} {i c j d s : Nat} (h : 12 ≤ l.length) (h2 : l.take 3 = [86, 83, 1]) (h3 : numL ((l.drop 4).take 4) = l.length) (h4 : numL (l.drop (l.length - 4)) = sumN (l.take (l.length - 4))) (h5 : fieldsF ((l.take (l.length - 4)).drop 8) = some (i, c, j, d, s, r)) :
    decE l = if checkF ((l.getD 3 0).toNat : Int) i c j d r.length ≠ 0 then 5 else 0 := by
  unfold decE; rw [if_neg (by omega), if_neg (by simpa using h2), if_neg (by simpa using h3), if_neg (by simpa using h4), h5]
/-- What Decode answers. -/
def DecodeP (w : World) (l : List UInt8) (e : Ending) (w' : World) : Prop :=
  Below w.heap.size w w' ∧
  ((decE l ≠ 0 ∧ e = .returned (.tuple #[.agg #[.int .i64 (0 : Int), .int .u16 (0 : Int), .int .u32 (0 : Int), .int .u16 (0 : Int), .int .u32 (0 : Int), .int .u64 (0 : Int), .slice none 0 0], .int .i64 (decE l : Nat)])) ∨
   ∃ (k i c j d s : Nat) (r : List UInt8) (A' : Option Addr) (q' : Nat), decE l = 0 ∧ IsP l k i c j d s r ∧ (i < 65536 ∧ c < 4294967296 ∧ j < 65536 ∧ d < 4294967296 ∧ s < 18446744073709551616) ∧
     e = .returned (.tuple #[.agg #[.int .i64 (k : Int), .int .u16 (i : Int), .int .u32 (c : Int), .int .u16 (j : Int), .int .u32 (d : Int), .int .u64 (s : Int), .slice A' (r.length) q'], .int .i64 0]) ∧ OwnB w' w.heap.size (.slice A' r.length q') r.length r)
theorem OwnB.room {w : World} {base n c : Nat} {A : Option Addr} {l : List UInt8} (h : OwnB w base (.slice A n c) n l) : c ≤ maxLen := by
  rcases h.2 with ⟨h0, _⟩ | ⟨g, cap, cur, hv, _, _, _, h2, _⟩
  · injection h0 with _ _ e; rw [e]; decide
  · injection hv with _ _ e; rw [e]; exact h2
theorem get8_any (A : Option Addr) (n q : Nat) (l : List UInt8) (B : Nat) (w : World) (hA : Bs w B A n l) (hn : n ≤ maxLen) (hnc : n ≤ q) (hle : 8 ≤ n) :
    Calls Try.prog 32 #[.slice A n q, .int .i64 8] w fun e w' => e = .returned (.tuple #[.int .u64 (numL (l.take 8) : Nat), .int .i64 0]) ∧ w = w' :=
  get_any A n q 8 l B w hA hn hnc (by decide) hle
/-- The parts of the number at a form's head. -/
theorem head_parts {l : List UInt8} (h12 : 12 ≤ l.length) : ∃ H m3 sz kk : Nat, H = numL (l.take 8) ∧ m3 = numL (l.take 3) ∧ sz = numL ((l.drop 4).take 4) ∧ kk = (l.getD 3 0).toNat ∧ sz < 4294967296 ∧ kk < 256 ∧
    (H : Int) / 1099511627776 = (m3 : Int) ∧ (H : Int) % 4294967296 = (sz : Int) ∧ (H : Int) / 4294967296 % 256 = (kk : Int) ∧ (l.take 3 = [86, 83, 1] ↔ m3 = 5657345) := by
  have hH := head_num h12
  have hm3 := numL_lt (l.take 3)
  have hs4 := numL_lt ((l.drop 4).take 4)
  have hk8 := (l.getD 3 0).toNat_lt
  rw [show 2 ^ (8 * (l.take 3).length) = 16777216 from by rw [List.length_take, Nat.min_eq_left (by omega)]] at hm3
  rw [show 2 ^ (8 * ((l.drop 4).take 4).length) = 4294967296 from by rw [List.length_take, List.length_drop, Nat.min_eq_left (by omega)]] at hs4
  refine ⟨_, _, _, _, rfl, rfl, rfl, rfl, hs4, hk8, by omega, by omega, by omega, ?_⟩
  constructor
  · intro e; rw [e]; decide
  · intro e; exact numL_inj 3 _ _ (by rw [List.length_take]; omega) rfl (by rw [e]; decide)
theorem isP_zero {k i c j d s : Nat} {l r : List UInt8} (h : IsP l k i c j d s r) : decE l = 0 := by
  rw [decE_6 h.len h.mark h.size h.sum h.fields, h.kind, if_neg (by simpa using h.check)]
theorem isP_same {k i c j d s k' i' c' j' d' s' : Nat} {l r r' : List UInt8} (h : IsP l k i c j d s r) (h' : IsP l k' i' c' j' d' s' r') : k' = k ∧ i' = i ∧ c' = c ∧ j' = j ∧ d' = d ∧ s' = s ∧ r' = r := by
  have h1 := h'.fields
  rw [h.fields] at h1
  injection h1 with h1
  simp only [Prod.mk.injEq] at h1
  obtain ⟨rfl, rfl, rfl, rfl, rfl, rfl⟩ := h1
  exact ⟨h'.kind.symm.trans h.kind, rfl, rfl, rfl, rfl, rfl, rfl⟩
/-- Whatever Decode answers, it is a packet and an error. -/
theorem decodeP_some {w w' : World} {l : List UInt8} {e : Ending} (h : DecodeP w l e w') : Below w.heap.size w w' ∧ ∃ (k : Int) (i c j d s : Nat) (A : Option Addr) (n q t : Nat), e = .returned (.tuple #[.agg #[.int .i64 (k : Int), .int .u16 (i : Int), .int .u32 (c : Int), .int .u16 (j : Int), .int .u32 (d : Int), .int .u64 (s : Int), .slice A n q], .int .i64 (t : Int)]) := by
  obtain ⟨hb, h⟩ := h
  refine ⟨hb, ?_⟩
  rcases h with ⟨_, rfl⟩ | ⟨k, i, c, j, d, s, r, A, q, _, _, _, rfl, _⟩
  · exact ⟨0, 0, 0, 0, 0, 0, none, 0, 0, decE l, rfl⟩
  · exact ⟨k, i, c, j, d, s, A, r.length, q, 0, rfl⟩
/-- Whom Decode refuses it answers with none. -/
theorem decodeP_no {w w' : World} {l : List UInt8} {e : Ending} (h : DecodeP w l e w') (h0 : decE l ≠ 0) : Below w.heap.size w w' ∧ e = .returned (.tuple #[.agg #[.int .i64 (0 : Int), .int .u16 (0 : Int), .int .u32 (0 : Int), .int .u16 (0 : Int), .int .u32 (0 : Int), .int .u64 (0 : Int), .slice none 0 0], .int .i64 (decE l : Nat)]) := by
  obtain ⟨hb, h⟩ := h
  rcases h with ⟨_, rfl⟩ | ⟨_, _, _, _, _, _, _, _, _, h1, _⟩
  · exact ⟨hb, rfl⟩
  · exact absurd h1 h0
set_option maxRecDepth 100000 in
theorem decode_a (A : Option Addr) (n q : Nat) (l : List UInt8) (w : World) (hA : Bs w w.heap.size A n l) (hn : n ≤ q) (hq : q ≤ maxLen) (hn5 : n ≤ 70368744177664) (h1 : n < 12) :
    Calls Try.prog 16 #[.slice A n q] w (DecodeP w l) := by
  have hlen := hA.len
  have hb0 : Below w.heap.size w (w.alloc (.cells #[.int .i64 (0 : Int), .int .u16 (0 : Int), .int .u32 (0 : Int), .int .u16 (0 : Int), .int .u32 (0 : Int), .int .u64 (0 : Int), .slice none 0 0] 29)) := (Below.refl _ _).alloc (Nat.le_refl _) _
  have hA1 := hA.alloc (Nat.le_refl _) (.cells #[.int .i64 (0 : Int), .int .u16 (0 : Int), .int .u32 (0 : Int), .int .u16 (0 : Int), .int .u32 (0 : Int), .int .u64 (0 : Int), .slice none 0 0] 29)
  have hP0 : PkAt (w.alloc (.cells #[.int .i64 (0 : Int), .int .u16 (0 : Int), .int .u32 (0 : Int), .int .u16 (0 : Int), .int .u32 (0 : Int), .int .u64 (0 : Int), .slice none 0 0] 29)) w.heap.size 0 0 0 0 0 0 none 0 0 := PkAt.new w
  have hE := decE_1 (l := l) (by omega)
  have t1 : ((n : Int) < 12) = True := by simp; omega
  have HE := hide hE
  clear hE hlen
  go_enter Try.func16, Try.ntmps16
  go_wp2
  generalize (w.alloc (.cells #[.int .i64 (0 : Int), .int .u16 (0 : Int), .int .u32 (0 : Int), .int .u16 (0 : Int), .int .u32 (0 : Int), .int .u64 (0 : Int), .slice none 0 0] 29)) = W at hP0 hb0 ⊢
  have HR := hide (⟨hb0, .inl ⟨by rw [HE.out]; decide, by rw [HE.out]; rfl⟩⟩ : DecodeP w l (.returned (.tuple #[.agg #[.int .i64 (0 : Int), .int .u16 (0 : Int), .int .u32 (0 : Int), .int .u16 (0 : Int), .int .u32 (0 : Int), .int .u64 (0 : Int), .slice none 0 0], .int .i64 2])) W)
  obtain ⟨f0, f1, f2, f3, f4, f5, f6⟩ := hP0.cells
  exact bodyPost_ret (v := .tuple #[.agg #[.int .i64 (0 : Int), .int .u16 (0 : Int), .int .u32 (0 : Int), .int .u16 (0 : Int), .int .u32 (0 : Int), .int .u64 (0 : Int), .slice none 0 0], .int .i64 2]) (by simp [results, Try.results16, go_sem, f0, f1, f2, f3, f4, f5, f6]) rfl HR.out
set_option maxRecDepth 100000 in
theorem decode_b (A : Option Addr) (n q : Nat) (l : List UInt8) (w : World) (hA : Bs w w.heap.size A n l) (hn : n ≤ q) (hq : q ≤ maxLen) (hn5 : n ≤ 70368744177664) (h12 : 12 ≤ l.length) (h2 : l.take 3 ≠ [86, 83, 1]) :
    Calls Try.prog 16 #[.slice A n q] w (DecodeP w l) := by
  have hlen := hA.len
  have hb0 : Below w.heap.size w (w.alloc (.cells #[.int .i64 (0 : Int), .int .u16 (0 : Int), .int .u32 (0 : Int), .int .u16 (0 : Int), .int .u32 (0 : Int), .int .u64 (0 : Int), .slice none 0 0] 29)) := (Below.refl _ _).alloc (Nat.le_refl _) _
  have hA1 := hA.alloc (Nat.le_refl _) (.cells #[.int .i64 (0 : Int), .int .u16 (0 : Int), .int .u32 (0 : Int), .int .u16 (0 : Int), .int .u32 (0 : Int), .int .u64 (0 : Int), .slice none 0 0] 29)
  have hP0 : PkAt (w.alloc (.cells #[.int .i64 (0 : Int), .int .u16 (0 : Int), .int .u32 (0 : Int), .int .u16 (0 : Int), .int .u32 (0 : Int), .int .u64 (0 : Int), .slice none 0 0] 29)) w.heap.size 0 0 0 0 0 0 none 0 0 := PkAt.new w
  have h1 : ¬ n < 12 := by omega
  have t1 : ((n : Int) < 12) = False := by simp; omega
  have cg := get8_any A n q l _ _ hA1 (by unfold maxLen at *; omega) hn (by omega)
  obtain ⟨H, m3, sz, kk, hHe, hm3e, hsze, hkke, hs4, hk8, d1, d2, d3, hmk⟩ := head_parts h12
  rw [← hHe] at cg
  clear hHe hm3e
  have hE := decE_2 h12 h2
  have t2 : ((m3 : Int) != 5657345) = true := by
    have : m3 ≠ 5657345 := fun e => h2 (hmk.2 e)
    simp; omega
  have HE := hide hE
  clear hE hlen hmk hsze hkke h2
  go_enter Try.func16, Try.ntmps16
  go_wp2_with fail
  refine cg.mono ?_
  rintro e w1 ⟨rfl, rfl⟩
  clear cg
  go_wp2
  generalize (w.alloc (.cells #[.int .i64 (0 : Int), .int .u16 (0 : Int), .int .u32 (0 : Int), .int .u16 (0 : Int), .int .u32 (0 : Int), .int .u64 (0 : Int), .slice none 0 0] 29)) = W at hP0 hb0 ⊢
  have HR := hide (⟨hb0, .inl ⟨by rw [HE.out]; decide, by rw [HE.out]; rfl⟩⟩ : DecodeP w l (.returned (.tuple #[.agg #[.int .i64 (0 : Int), .int .u16 (0 : Int), .int .u32 (0 : Int), .int .u16 (0 : Int), .int .u32 (0 : Int), .int .u64 (0 : Int), .slice none 0 0], .int .i64 6])) W)
  obtain ⟨f0, f1, f2, f3, f4, f5, f6⟩ := hP0.cells
  exact bodyPost_ret (v := .tuple #[.agg #[.int .i64 (0 : Int), .int .u16 (0 : Int), .int .u32 (0 : Int), .int .u16 (0 : Int), .int .u32 (0 : Int), .int .u64 (0 : Int), .slice none 0 0], .int .i64 6]) (by simp [results, Try.results16, go_sem, f0, f1, f2, f3, f4, f5, f6]) rfl HR.out
set_option maxRecDepth 100000 in
theorem decode_c (A : Option Addr) (n q : Nat) (l : List UInt8) (w : World) (hA : Bs w w.heap.size A n l) (hn : n ≤ q) (hq : q ≤ maxLen) (hn5 : n ≤ 70368744177664) (h12 : 12 ≤ l.length) (h2 : l.take 3 = [86, 83, 1]) (h3 : numL ((l.drop 4).take 4) ≠ l.length) :
    Calls Try.prog 16 #[.slice A n q] w (DecodeP w l) := by
  have hlen := hA.len
  have hb0 : Below w.heap.size w (w.alloc (.cells #[.int .i64 (0 : Int), .int .u16 (0 : Int), .int .u32 (0 : Int), .int .u16 (0 : Int), .int .u32 (0 : Int), .int .u64 (0 : Int), .slice none 0 0] 29)) := (Below.refl _ _).alloc (Nat.le_refl _) _
  have hA1 := hA.alloc (Nat.le_refl _) (.cells #[.int .i64 (0 : Int), .int .u16 (0 : Int), .int .u32 (0 : Int), .int .u16 (0 : Int), .int .u32 (0 : Int), .int .u64 (0 : Int), .slice none 0 0] 29)
  have hP0 : PkAt (w.alloc (.cells #[.int .i64 (0 : Int), .int .u16 (0 : Int), .int .u32 (0 : Int), .int .u16 (0 : Int), .int .u32 (0 : Int), .int .u64 (0 : Int), .slice none 0 0] 29)) w.heap.size 0 0 0 0 0 0 none 0 0 := PkAt.new w
  have h1 : ¬ n < 12 := by omega
  have t1 : ((n : Int) < 12) = False := by simp; omega
  have cg := get8_any A n q l _ _ hA1 (by unfold maxLen at *; omega) hn (by omega)
  obtain ⟨H, m3, sz, kk, hHe, hm3e, hsze, hkke, hs4, hk8, d1, d2, d3, hmk⟩ := head_parts h12
  rw [← hHe] at cg
  clear hHe hm3e
  have hE := decE_3 h12 h2 h3
  obtain rfl := hmk.1 h2
  rw [← hsze, hlen] at h3
  have HE := hide hE
  clear hE hlen hmk hsze hkke h2
  have t3 : ((sz : Int) != (n : Int)) = true := by simp; omega
  have w3 : IntKind.u64.wrap (n : Int) = (n : Int) := by rw [IntKind.wrap_u64]; omega
  have w4 : IntKind.u64.wrap (sz : Int) = (sz : Int) := by rw [IntKind.wrap_u64]; omega
  go_enter Try.func16, Try.ntmps16
  go_wp2_with fail
  refine cg.mono ?_
  rintro e w1 ⟨rfl, rfl⟩
  clear cg
  go_wp2
  generalize (w.alloc (.cells #[.int .i64 (0 : Int), .int .u16 (0 : Int), .int .u32 (0 : Int), .int .u16 (0 : Int), .int .u32 (0 : Int), .int .u64 (0 : Int), .slice none 0 0] 29)) = W at hP0 hb0 ⊢
  have HR := hide (⟨hb0, .inl ⟨by rw [HE.out]; decide, by rw [HE.out]; rfl⟩⟩ : DecodeP w l (.returned (.tuple #[.agg #[.int .i64 (0 : Int), .int .u16 (0 : Int), .int .u32 (0 : Int), .int .u16 (0 : Int), .int .u32 (0 : Int), .int .u64 (0 : Int), .slice none 0 0], .int .i64 5])) W)
  obtain ⟨f0, f1, f2, f3, f4, f5, f6⟩ := hP0.cells
  exact bodyPost_ret (v := .tuple #[.agg #[.int .i64 (0 : Int), .int .u16 (0 : Int), .int .u32 (0 : Int), .int .u16 (0 : Int), .int .u32 (0 : Int), .int .u64 (0 : Int), .slice none 0 0], .int .i64 5]) (by simp [results, Try.results16, go_sem, f0, f1, f2, f3, f4, f5, f6]) rfl HR.out
set_option maxRecDepth 100000 in
theorem decode_d (A : Option Addr) (n q : Nat) (l : List UInt8) (w : World) (hA : Bs w w.heap.size A n l) (hn : n ≤ q) (hq : q ≤ maxLen) (hn5 : n ≤ 70368744177664) (h12 : 12 ≤ l.length) (h2 : l.take 3 = [86, 83, 1]) (h3 : numL ((l.drop 4).take 4) = l.length) (h4 : numL (l.drop (l.length - 4)) ≠ sumN (l.take (l.length - 4))) :
    Calls Try.prog 16 #[.slice A n q] w (DecodeP w l) := by
  have hlen := hA.len
  have hb0 : Below w.heap.size w (w.alloc (.cells #[.int .i64 (0 : Int), .int .u16 (0 : Int), .int .u32 (0 : Int), .int .u16 (0 : Int), .int .u32 (0 : Int), .int .u64 (0 : Int), .slice none 0 0] 29)) := (Below.refl _ _).alloc (Nat.le_refl _) _
  have hA1 := hA.alloc (Nat.le_refl _) (.cells #[.int .i64 (0 : Int), .int .u16 (0 : Int), .int .u32 (0 : Int), .int .u16 (0 : Int), .int .u32 (0 : Int), .int .u64 (0 : Int), .slice none 0 0] 29)
  have hP0 : PkAt (w.alloc (.cells #[.int .i64 (0 : Int), .int .u16 (0 : Int), .int .u32 (0 : Int), .int .u16 (0 : Int), .int .u32 (0 : Int), .int .u64 (0 : Int), .slice none 0 0] 29)) w.heap.size 0 0 0 0 0 0 none 0 0 := PkAt.new w
  have h1 : ¬ n < 12 := by omega
  have t1 : ((n : Int) < 12) = False := by simp; omega
  have cg := get8_any A n q l _ _ hA1 (by unfold maxLen at *; omega) hn (by omega)
  obtain ⟨H, m3, sz, kk, hHe, hm3e, hsze, hkke, hs4, hk8, d1, d2, d3, hmk⟩ := head_parts h12
  rw [← hHe] at cg
  clear hHe hm3e
  have hE := decE_4 h12 h2 h3 h4
  obtain rfl := hmk.1 h2
  rw [← hsze, hlen] at h3
  subst h3
  have w3 : IntKind.u64.wrap (sz : Int) = (sz : Int) := by rw [IntKind.wrap_u64]; omega
  obtain ⟨m, hm⟩ : ∃ m, sz = m + 4 := ⟨sz - 4, by omega⟩
  have hm4 : l.length - 4 = m := by omega
  rw [hm4] at h4
  have co := open_no A m sz q l _ _ hA1 (by simp) hm hn hn5 h4
  have HE := hide hE
  have HM := hide hm
  clear hE hlen hmk hsze hkke h4 hm hm4 h2
  go_enter Try.func16, Try.ntmps16
  go_wp2_with fail
  refine cg.mono ?_
  rintro e w1 ⟨rfl, rfl⟩
  clear cg
  go_wp2_with fail
  refine co.mono ?_
  rintro e w1 ⟨rfl, hb1⟩
  have hP1 := hP0.later hb1
  have hx1 := hb0.trans (hb1.mono (by simp))
  obtain ⟨f0, f1, f2, f3, f4, f5, f6⟩ := hP1.cells
  have fz := hP1.frozen
  have hPz := hP1.put 0 0 0 0 0 0 none 0 0
  have hxz := below_put hx1 (Nat.le_refl _) 0 0 0 0 0 0 none 0 0
  clear hb1 co hP0 hb0 hA1 hP1 hx1
  go_wp2
  generalize (((((((w1.setCell ⟨w.heap.size, 0, none⟩ (.int .i64 (0 : Int))).setCell ⟨w.heap.size, 1, none⟩ (.int .u16 (0 : Int))).setCell ⟨w.heap.size, 2, none⟩ (.int .u32 (0 : Int))).setCell ⟨w.heap.size, 3, none⟩ (.int .u16 (0 : Int))).setCell ⟨w.heap.size, 4, none⟩ (.int .u32 (0 : Int))).setCell ⟨w.heap.size, 5, none⟩ (.int .u64 (0 : Int))).setCell ⟨w.heap.size, 6, none⟩ (.slice none 0 0)) = W at hPz hxz ⊢
  have HR := hide (⟨hxz, .inl ⟨by rw [HE.out]; decide, by rw [HE.out]; rfl⟩⟩ : DecodeP w l (.returned (.tuple #[.agg #[.int .i64 (0 : Int), .int .u16 (0 : Int), .int .u32 (0 : Int), .int .u16 (0 : Int), .int .u32 (0 : Int), .int .u64 (0 : Int), .slice none 0 0], .int .i64 4])) W)
  clear f0 f1 f2 f3 f4 f5 f6 fz
  obtain ⟨f0, f1, f2, f3, f4, f5, f6⟩ := hPz.cells
  exact bodyPost_ret (v := .tuple #[.agg #[.int .i64 (0 : Int), .int .u16 (0 : Int), .int .u32 (0 : Int), .int .u16 (0 : Int), .int .u32 (0 : Int), .int .u64 (0 : Int), .slice none 0 0], .int .i64 4]) (by simp [results, Try.results16, go_sem, f0, f1, f2, f3, f4, f5, f6]) rfl HR.out
end Go.Proofs.Ytkhkihobbfecoaa
