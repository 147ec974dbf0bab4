/-
  Digits of base 16: the plain functions.
-/
import Derived.Laws.BitsAllLaws
import Derived.Test.YtdmihbicpjmgjaaDoorQLib
import Derived.Test.YtdmihbicpjmgjaaDoorQViewTM
import Derived.Test.YtdmihbicpjmgjaaDoorQCmdM
import Derived.Test.YtdmihbicpjmgjaaDoorQView6
import Derived.Test.YtdmihbicpjmgjaaDoorQFlow
namespace Go.Proofs.YtdmihbicpjmgjaaDoor
open Go.RowKit

/-- The digit of a number below 16. -/
def hexD (k : Nat) : UInt8 := if k < 10 then UInt8.ofNat (48 + k) else UInt8.ofNat (87 + k)
/-- What a digit stands for. -/
def digV (c : UInt8) : Option Nat := if 48 ≤ c.toNat ∧ c.toNat ≤ 57 then some (c.toNat - 48) else if 97 ≤ c.toNat ∧ c.toNat ≤ 102 then some (c.toNat - 87) else none
theorem digV_lt {c : UInt8} {k : Nat} (h : digV c = some k) : k < 16 := by
  unfold digV at h
  split at h
  · injection h; omega
  · split at h
    · injection h; omega
    · cases h
theorem hexD_toNat (k : Nat) (h : k < 16) : (hexD k).toNat = if k < 10 then 48 + k else 87 + k := by
  unfold hexD; split <;> simp <;> omega
theorem digV_hexD (k : Nat) (h : k < 16) : digV (hexD k) = some k := by
  have e := hexD_toNat k h
  unfold digV
  by_cases h10 : k < 10
  · rw [if_pos h10] at e; rw [e, if_pos (by omega)]; congr 1; omega
  · rw [if_neg h10] at e; rw [e, if_neg (by omega), if_pos (by omega)]; congr 1; omega
def hexL : List UInt8 → List UInt8
  | [] => []
  | b :: t => hexD (b.toNat / 16) :: hexD (b.toNat % 16) :: hexL t
theorem hexL_append (p q : List UInt8) : hexL (p ++ q) = hexL p ++ hexL q := by
  induction p with
  | nil => rfl
  | cons b t ih => simp [hexL, ih]
theorem hexL_snoc (p : List UInt8) (b : UInt8) : hexL (p ++ [b]) = hexL p ++ [hexD (b.toNat / 16), hexD (b.toNat % 16)] := hexL_append p [b]
theorem hexL_len (p : List UInt8) : (hexL p).length = 2 * p.length := by
  induction p with
  | nil => rfl
  | cons b t ih => simp [hexL, ih]; omega
def unhexL : List UInt8 → Option (List UInt8)
  | [] => some []
  | [_] => none
  | a :: b :: t =>
    match digV a, digV b, unhexL t with
    | some x, some y, some r => some (UInt8.ofNat (x * 16 + y) :: r)
    | _, _, _ => none
theorem unhexL_cons (a b : UInt8) (t : List UInt8) : unhexL (a :: b :: t) = (match digV a, digV b, unhexL t with
    | some x, some y, some r => some (UInt8.ofNat (x * 16 + y) :: r)
    | _, _, _ => none) := by rw [unhexL]
theorem unhex_hex (l : List UInt8) : unhexL (hexL l) = some l := by
  induction l with
  | nil => rfl
  | cons b t ih =>
    have hb := b.toNat_lt
    rw [hexL, unhexL_cons, ih, digV_hexD _ (by omega), digV_hexD _ (by omega)]
    simp only [Option.some.injEq, List.cons.injEq, and_true]
    rw [show b.toNat / 16 * 16 + b.toNat % 16 = b.toNat from by omega]
    simp
theorem unhex_append (k : Nat) : ∀ p q : List UInt8, p.length = 2 * k → unhexL (p ++ q) = match unhexL p, unhexL q with | some r, some s => some (r ++ s) | _, _ => none := by
  induction k with
  | zero =>
    intro p q h
    obtain rfl := List.eq_nil_of_length_eq_zero h
    simp only [List.nil_append, unhexL]
    cases unhexL q <;> rfl
  | succ k ih =>
    intro p q h
    match p, h with
    | a :: b :: t, h =>
      have ht : t.length = 2 * k := by simp at h; omega
      rw [List.cons_append, List.cons_append, unhexL_cons, unhexL_cons, ih t q ht]
      cases digV a <;> cases digV b <;> cases unhexL t <;> cases unhexL q <;> simp
theorem unhex_odd (k : Nat) : ∀ p : List UInt8, p.length = 2 * k + 1 → unhexL p = none := by
  induction k with
  | zero =>
    intro p h
    match p, h with
    | [a], _ => rfl
  | succ k ih =>
    intro p h
    match p, h with
    | a :: b :: t, h =>
      rw [unhexL_cons, ih t (by simp at h; omega)]
      cases digV a <;> cases digV b <;> rfl
theorem unhex_len (k : Nat) : ∀ p r : List UInt8, p.length = 2 * k → unhexL p = some r → r.length = k := by
  induction k with
  | zero =>
    intro p r h e
    obtain rfl := List.eq_nil_of_length_eq_zero h
    simp [unhexL] at e; subst e; rfl
  | succ k ih =>
    intro p r h e
    match p, h with
    | a :: b :: t, h =>
      rw [unhexL_cons] at e
      cases ha : digV a <;> cases hb : digV b <;> cases ht : unhexL t <;> rw [ha, hb, ht] at e <;> simp at e
      rename_i x y s
      subst e
      have := ih t s (by simp at h; omega) ht
      simp [this]
/-- At the head of a round of Unhex: j pairs are read. -/
structure UnInv (s : List UInt8) (j : Nat) (r : List UInt8) : Prop where
  part : unhexL (s.take (2 * j)) = some r
  upto : 2 * j ≤ s.length
theorem UnInv.start (s : List UInt8) : UnInv s 0 [] := ⟨by simp [unhexL], by omega⟩
section
variable {s r : List UInt8} {j : Nat}
theorem UnInv.len (h : UnInv s j r) : r.length = j := unhex_len j _ _ (by have := h.upto; simp; omega) h.part
theorem take_two (h : 2 * j + 1 < s.length) : s.take (2 * (j + 1)) = s.take (2 * j) ++ [s[2 * j], s[2 * j + 1]] := by
  rw [show 2 * (j + 1) = 2 * j + 1 + 1 from by omega, List.take_succ_eq_append_getElem h, List.take_succ_eq_append_getElem (by omega : 2 * j < s.length), List.append_assoc]
  rfl
theorem UnInv.step (h : UnInv s j r) (hj : 2 * j + 1 < s.length) {x y : Nat} (hx : digV s[2 * j] = some x) (hy : digV s[2 * j + 1] = some y) : UnInv s (j + 1) (r ++ [UInt8.ofNat (x * 16 + y)]) := by
  refine ⟨?_, by omega⟩
  rw [take_two hj, unhex_append j _ _ (by simp; omega), h.part, unhexL_cons, hx, hy]
  simp [unhexL]
theorem UnInv.bad (h : UnInv s j r) (hj : 2 * j + 1 < s.length) (hb : digV s[2 * j] = none ∨ digV s[2 * j + 1] = none) : unhexL s = none := by
  have e : s = s.take (2 * j) ++ (s[2 * j] :: s[2 * j + 1] :: s.drop (2 * j + 2)) := by
    rw [← List.drop_eq_getElem_cons hj, ← List.drop_eq_getElem_cons (by omega : 2 * j < s.length), List.take_append_drop]
  rw [e, unhex_append j _ _ (by simp; omega), h.part, unhexL_cons]
  rcases hb with hb | hb
  · rw [hb]
  · rw [hb]; cases digV s[2 * j] <;> rfl
theorem UnInv.odd (_h : UnInv s j r) (hj : s.length = 2 * j + 1) : unhexL s = none := unhex_odd j s hj
theorem UnInv.done (h : UnInv s j r) (hj : s.length = 2 * j) : unhexL s = some r := by
  have := h.part
  rwa [List.take_of_length_le (by omega)] at this
end
theorem unhex_odd_mod (s : List UInt8) (h : s.length % 2 = 1) : unhexL s = none := unhex_odd (s.length / 2) s (by omega)
end Go.Proofs.YtdmihbicpjmgjaaDoor
namespace Go.Proofs.YtdmihbicpjmgjaaDoor
open Go.RowKit Go.Lib
set_option linter.unusedVariables false

/-- The text of a command that may be. -/
def textL (c : Cm) : List UInt8 :=
  if c.kind = 2 then [115, 101, 110, 100, 32] ++ (pidT c.p.i c.p.k ++ (32 :: (decDigits c.num ++ (32 :: (decDigits c.vn ++ (32 :: 120 :: hexL c.d))))))
  else if c.kind = 3 then [118, 105, 101, 119, 32] ++ printL c.v else [110, 111, 112]
theorem hexL_inj {a b : List UInt8} (h : hexL a = hexL b) : a = b := by
  have h1 := unhex_hex a
  rw [h, unhex_hex b] at h1
  exact (Option.some.inj h1).symm
theorem textL_ne (c : Cm) : textL c ≠ [63] := by
  unfold textL
  split
  · simp
  · split <;> simp
/-- Unlike commands that may be have unlike texts. -/
theorem textL_inj {a b : Cm} (ha : MayC a) (hb : MayC b) (h : textL a = textL b) : a = b := by
  unfold textL at h
  rcases ha.but with ⟨h0, h1⟩ | ⟨h0, h1, h2, h3, h4⟩ | ⟨h0, h1, h2⟩
  · rcases hb.but with ⟨g0, g1⟩ | ⟨g0, g1, g2, g3, g4⟩ | ⟨g0, g1, g2⟩
    · rw [h1, g1]
    · rw [h0, g0] at h; simp at h
    · rw [h0, g0] at h; simp at h
  · rcases hb.but with ⟨g0, g1⟩ | ⟨g0, g1, g2, g3, g4⟩ | ⟨g0, g1, g2⟩
    · rw [h0, g0] at h; simp at h
    · rw [if_pos h0, if_pos g0] at h
      have h := List.append_cancel_left h
      obtain ⟨e1, e2, h⟩ := pidT_cancel (noDig_32 _) (noDig_32 _) h
      rw [List.cons.injEq] at h
      obtain ⟨e3, h⟩ := dec_cancel (noDig_32 _) (noDig_32 _) h.2
      rw [List.cons.injEq] at h
      obtain ⟨e4, h⟩ := dec_cancel (noDig_32 _) (noDig_32 _) h.2
      rw [List.cons.injEq, List.cons.injEq] at h
      have e5 := hexL_inj h.2.2
      exact Cm.ext' (by rw [h0, g0]) (Pr.ext e1 e2) e3 e4 e5 (by rw [h4, g4])
    · rw [h0, g0] at h; simp at h
  · rcases hb.but with ⟨g0, g1⟩ | ⟨g0, g1, g2, g3, g4⟩ | ⟨g0, g1, g2⟩
    · rw [h0, g0] at h; simp at h
    · rw [h0, g0] at h; simp at h
    · rw [h0, g0] at h
      simp only [show ¬ (3 : Int) = 2 by decide, if_false, if_true] at h
      have h := printL_inj h1 g1 (List.append_cancel_left h)
      rw [h2, g2, h]
/-- Any command's text. -/
def TextC (c : Cm) (l : List UInt8) : Prop := (MayC c ∧ l = textL c) ∨ (¬ MayC c ∧ l = [63])
theorem TextC.some_ (c : Cm) : ∃ l, TextC c l := by
  by_cases h : MayC c
  · exact ⟨_, .inl ⟨h, rfl⟩⟩
  · exact ⟨_, .inr ⟨h, rfl⟩⟩
theorem TextC.one {a b : Cm} {l m : List UInt8} (ha : TextC a l) (hb : TextC b m) (h : l = m) : l = [63] ∨ a = b := by
  rcases ha with ⟨h1, h2⟩ | ⟨_, h2⟩
  · rcases hb with ⟨g1, g2⟩ | ⟨_, g2⟩
    · exact .inr (textL_inj h1 g1 (by rw [← h2, ← g2, h]))
    · exact .inl (by rw [h, g2])
  · exact .inl h2
end Go.Proofs.YtdmihbicpjmgjaaDoor
namespace Go.Proofs.YtdmihbicpjmgjaaDoor
open Go.RowKit Go.Maps
set_option linter.unusedVariables false
set_option linter.unusedSimpArgs false

/-- A block's cells as a row. -/
theorem es_block {α : Type} {enc : α → List Value} {w : World} {b : Nat} {cs : Array Value} {T : TypeId} {fz : Nat × Nat} {l : List α} (h : w.heap[b]? = some (.cells cs T fz)) (he : cs.toList = ec enc l) {n : Nat} (hn : l.length = n) : Es enc w (b + 1) (some ⟨b, 0, none⟩) n l := by
  refine ⟨hn, fun _ => ⟨_, rfl, Nat.lt_succ_self _, fun j v hv => ?_⟩⟩
  have hadd : (⟨b, 0, none⟩ : Addr).add j = ⟨b, j, none⟩ := by unfold Addr.add; split <;> simp_all
  rw [hadd, cell_of_row _ _ j _ _ _ h]
  rw [← he] at hv
  simpa using hv
def q11 : Pr := ⟨1, 1, by decide, by decide⟩
def q21 : Pr := ⟨2, 1, by decide, by decide⟩
def q31 : Pr := ⟨3, 1, by decide, by decide⟩
def q91 : Pr := ⟨9, 1, by decide, by decide⟩
def smallV : Vi := ⟨1, [q11, q21, q31], [[q11, q31], [q21]], [q11, q21]⟩
/-- Some blocks, one behind the other. -/
def allocs (w : World) : List Obj → World
  | [] => w
  | o :: os => allocs (w.alloc o) os
theorem allocs_below : ∀ (os : List Obj) (w : World), Below w.heap.size w (allocs w os)
  | [], w => Below.refl _ _
  | o :: os, w => ((Below.refl _ w).alloc (Nat.le_refl _) o).trans ((allocs_below os (w.alloc o)).mono (by simp))
theorem allocs_size : ∀ (os : List Obj) (w : World), (allocs w os).heap.size = w.heap.size + os.length
  | [], w => rfl
  | o :: os, w => by rw [allocs, allocs_size os]; simp; omega
theorem allocs_at : ∀ (os : List Obj) (w : World) (i : Nat) (o : Obj), os[i]? = some o → (allocs w os).heap[w.heap.size + i]? = some o
  | [], w, i, o, h => by simp at h
  | p :: os, w, 0, o, h => by
    simp only [List.getElem?_cons_zero, Option.some.injEq] at h
    subst h
    exact ((allocs_below os (w.alloc p)).block _ (by simp)).trans (heap_alloc_new w p)
  | p :: os, w, i + 1, o, h => by
    have := allocs_at os (w.alloc p) i o (by simpa using h)
    rw [World.size_alloc] at this
    rw [allocs, show w.heap.size + (i + 1) = w.heap.size + 1 + i from by omega]
    exact this
/-- What small answers. -/
def SmallP (w : World) (e : Ending) (w' : World) : Prop := ∃ x : Vw, e = .returned (.agg #[.int .u64 (x.id : Int), .slice x.A x.m x.c, .slice x.B x.d x.e, .slice x.C x.f x.g]) ∧ VwIn w' w'.heap.size x ∧ VSmall x ∧ x.v = smallV ∧ Below w.heap.size w w'
/-- Its parts, where the blocks lie from a on. -/
def smallX (a : Nat) : Vw := ⟨1, some ⟨a + 4, 0, none⟩, 3, 3, [q11, q21, q31], some ⟨a + 7, 0, none⟩, 2, 2, [⟨some ⟨a + 5, 0, none⟩, 2, 2, [q11, q31]⟩, ⟨some ⟨a + 6, 0, none⟩, 1, 1, [q21]⟩], some ⟨a + 8, 0, none⟩, 2, 2, [q11, q21]⟩
def smallO (a : Nat) : List Obj := [.cells #[.int .u64 1, .slice (some ⟨a + 4, 0, none⟩) 3 3, .slice (some ⟨a + 7, 0, none⟩) 2 2, .slice (some ⟨a + 8, 0, none⟩) 2 2] 31,
  .cells #[.int .u16 1, .int .u32 1] 25, .cells #[.int .u16 2, .int .u32 1] 25, .cells #[.int .u16 3, .int .u32 1] 25,
  .cells #[.int .u16 1, .int .u32 1, .int .u16 2, .int .u32 1, .int .u16 3, .int .u32 1] 25, .cells #[.int .u16 1, .int .u32 1, .int .u16 3, .int .u32 1] 25, .cells #[.int .u16 2, .int .u32 1] 25,
  .cells #[.slice (some ⟨a + 5, 0, none⟩) 2 2, .slice (some ⟨a + 6, 0, none⟩) 1 1] 28, .cells #[.int .u16 1, .int .u32 1, .int .u16 2, .int .u32 1] 25]
theorem small_in (w : World) : VwIn (allocs w (smallO w.heap.size)) (allocs w (smallO w.heap.size)).heap.size (smallX w.heap.size) := by
  have hz := allocs_size (smallO w.heap.size) w
  rw [show (smallO w.heap.size).length = 9 from rfl] at hz
  have h4 := allocs_at (smallO w.heap.size) w 4 _ rfl
  have h5 := allocs_at (smallO w.heap.size) w 5 _ rfl
  have h6 := allocs_at (smallO w.heap.size) w 6 _ rfl
  have h7 := allocs_at (smallO w.heap.size) w 7 _ rfl
  have h8 := allocs_at (smallO w.heap.size) w 8 _ rfl
  have d3 : (3 : Nat) ≤ maxLen := by decide
  have d2 : (2 : Nat) ≤ maxLen := by decide
  have hle : ∀ i, i < 9 → w.heap.size + i + 1 ≤ (allocs w (smallO w.heap.size)).heap.size := fun i hi => by omega
  have hl : Es lfC (allocs w (smallO w.heap.size)) (w.heap.size + 7 + 1) (some ⟨w.heap.size + 7, 0, none⟩) 2 (smallX w.heap.size).q := es_block h7 rfl rfl
  have hm : Es prC (allocs w (smallO w.heap.size)) (w.heap.size + 4 + 1) (some ⟨w.heap.size + 4, 0, none⟩) 3 (smallX w.heap.size).l := es_block h4 rfl rfl
  have hr : Es prC (allocs w (smallO w.heap.size)) (w.heap.size + 8 + 1) (some ⟨w.heap.size + 8, 0, none⟩) 2 (smallX w.heap.size).r := es_block h8 rfl rfl
  refine ⟨(by decide : (1 : Nat) < 18446744073709551616), hm.more (hle 4 (by omega)), Nat.le_refl 3, d3, hl.more (hle 7 (by omega)), Nat.le_refl 2, d2, fun y hy => ?_, hr.more (hle 8 (by omega)), Nat.le_refl 2, d2⟩
  simp only [smallX, List.mem_cons, List.not_mem_nil, or_false] at hy
  rcases hy with rfl | rfl
  · exact ⟨(es_block h5 rfl rfl).more (hle 5 (by omega)), Nat.le_refl 2, d2⟩
  · exact ⟨(es_block h6 rfl rfl).more (hle 6 (by omega)), Nat.le_refl 1, (by decide : (1 : Nat) ≤ maxLen)⟩
end Go.Proofs.YtdmihbicpjmgjaaDoor
namespace Go.Proofs.YtdmihbicpjmgjaaDoor
open Go.RowKit Go.Maps
set_option linter.unusedVariables false
set_option linter.unusedSimpArgs false

/-- A row that is there. -/
def EsV {α : Type} (enc : α → List Value) (n : Nat) (l : List α) (v : Value) (w : World) : Prop := ∃ A c B, v = .slice A n c ∧ Es enc w B A n l ∧ B ≤ w.heap.size
theorem esV_steady {α : Type} {enc : α → List Value} (n : Nat) (l : List α) : Steady (EsV enc n l) := fun v w w' ⟨A, c, B, e, h, hB⟩ hb => ⟨A, c, B, e, h.below (hb.mono hB), Nat.le_trans hB hb.size⟩
theorem small_may : MayV smallV := by
  refine ⟨by decide, by decide, ⟨by decide, by decide, by decide, by decide⟩, ⟨?_, by decide, ?_⟩, by decide, ?_⟩
  · intro l hl
    simp only [smallV, List.mem_cons, List.not_mem_nil, or_false] at hl
    rcases hl with rfl | rfl
    · exact ⟨by decide, by unfold RiseP; decide⟩
    · exact ⟨by decide, by unfold RiseP; decide⟩
  · unfold RiseP; decide
  · unfold RiseP; decide
end Go.Proofs.YtdmihbicpjmgjaaDoor
namespace Go.Proofs.YtdmihbicpjmgjaaDoor
open Go.RowKit Go.Maps
set_option linter.unusedVariables false

theorem VAt.mk_ (w : World) (x : Vw) : VAt (w.alloc (.cells #[.int .u64 (x.id : Int), .slice x.A x.m x.c, .slice x.B x.d x.e, .slice x.C x.f x.g] 31)) w.heap.size x := heap_alloc_new w _
theorem VAt.lt {w : World} {b : Nat} {x : Vw} (h : VAt w b x) : b < w.heap.size := (Array.getElem?_eq_some_iff.1 h).1
theorem VAt.later {w w' : World} {b : Nat} {x : Vw} (h : VAt w b x) (hb : Below w.heap.size w w') : VAt w' b x := (hb.block b h.lt).trans h
theorem VAt.alloc {w : World} {b : Nat} {x : Vw} (h : VAt w b x) (o : Obj) : VAt (w.alloc o) b x := h.later ((Below.refl _ _).alloc (Nat.le_refl _) o)
theorem VAt.cells {w : World} {b : Nat} {x : Vw} (h : VAt w b x) : w.cell? ⟨b, 0, none⟩ = some (.int .u64 (x.id : Int)) ∧ w.cell? ⟨b, 1, none⟩ = some (.slice x.A x.m x.c) ∧ w.cell? ⟨b, 2, none⟩ = some (.slice x.B x.d x.e) ∧ w.cell? ⟨b, 3, none⟩ = some (.slice x.C x.f x.g) :=
  ⟨cell_of_row w b 0 _ _ (0, 0) h, cell_of_row w b 1 _ _ (0, 0) h, cell_of_row w b 2 _ _ (0, 0) h, cell_of_row w b 3 _ _ (0, 0) h⟩
/-- What frees a walk of a Bool's two ways. -/
theorem VwIn.m_le {w : World} {B : Nat} {x : Vw} (h : VwIn w B x) : x.m ≤ maxLen := Nat.le_trans h.mc h.room
end Go.Proofs.YtdmihbicpjmgjaaDoor
