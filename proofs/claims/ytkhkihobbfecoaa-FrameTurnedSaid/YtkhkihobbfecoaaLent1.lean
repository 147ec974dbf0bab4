/-
  Contracts of Lent, Kept and Form.
-/
import Derived.Test.YtkhkihobbfecoaaBytes1
import Derived.Test.YtkhkihobbfecoaaForm1
namespace Go.Proofs.Ytkhkihobbfecoaa
open Go.RowKit
set_option linter.unusedVariables false

/-- A row that is filled from its head on: k of M's bytes stand. -/
def fillT (M : List UInt8) (k : Nat) : List Value := bvs (M.take k) ++ zeroBytes (M.length - k)
theorem fillT_zero (M : List UInt8) : fillT M 0 = zeroBytes M.length := by simp [fillT, bvs]
theorem fillT_full (M : List UInt8) : fillT M M.length = bvs M := by simp [fillT, zeroBytes]
theorem fillT_len (M : List UInt8) (k : Nat) (h : k ≤ M.length) : (fillT M k).length = M.length := by simp [fillT, bvs_len, zeroBytes_len]; omega
theorem fillT_at (M : List UInt8) (k : Nat) (h : k < M.length) : (fillT M k)[k]? = some (.int .u8 0) := by
  rw [fillT, List.getElem?_append_right (by rw [bvs_len]; simp; omega), bvs_len, List.length_take, Nat.min_eq_left (by omega), Nat.sub_self, zeroBytes]
  rw [List.getElem?_replicate, if_pos (by omega)]
theorem fillT_step (M : List UInt8) (k : Nat) (h : k < M.length) : (fillT M k).set k (byteV M[k]) = fillT M (k + 1) := by
  have e1 : (bvs (M.take k)).length = k := by rw [bvs_len]; simp; omega
  have e2 : M.length - k = (M.length - (k + 1)) + 1 := by omega
  rw [fillT, fillT, List.set_append_right _ _ (by omega), e1, Nat.sub_self, e2, zeroBytes, List.replicate_succ, List.set_cons_zero, take_snoc h, bvs_snoc, List.append_assoc]
  rfl
/-- A row that is filled from its end: M's bytes stand from place k on. -/
def backT (M : List UInt8) (k : Nat) : List Value := zeroBytes k ++ bvs (M.drop k)
theorem backT_full (M : List UInt8) : backT M M.length = zeroBytes M.length := by simp [backT, bvs]
theorem backT_zero (M : List UInt8) : backT M 0 = bvs M := by simp [backT, zeroBytes]
theorem backT_len (M : List UInt8) (k : Nat) (h : k ≤ M.length) : (backT M k).length = M.length := by simp [backT, bvs_len, zeroBytes_len]; omega
theorem backT_at (M : List UInt8) (k : Nat) (h : k < M.length) : (backT M (k + 1))[k]? = some (.int .u8 0) := by
  rw [backT, List.getElem?_append_left (by rw [zeroBytes_len]; omega), zeroBytes, List.getElem?_replicate, if_pos (by omega)]
theorem backT_step (M : List UInt8) (k : Nat) (h : k < M.length) : (backT M (k + 1)).set k (byteV M[k]) = backT M k := by
  have e : (zeroBytes (k + 1)).set k (byteV M[k]) = zeroBytes k ++ [byteV M[k]] := by
    rw [zeroBytes, List.replicate_succ', List.set_append_right _ _ (by simp)]
    simp [zeroBytes]
  rw [backT, backT, List.set_append_left _ _ (by rw [zeroBytes_len]; omega), e, List.drop_eq_getElem_cons h, List.append_assoc]
  rfl

/-- The block g is just these cells. -/
def BlkB (w : World) (g : Nat) (cs : List Value) : Prop := w.heap[g]? = some (.cells cs.toArray 5 (0, 0))
section
variable {w w' : World} {g : Nat} {cs : List Value}
theorem BlkB.lt (h : BlkB w g cs) : g < w.heap.size := lt_of_heap h
theorem BlkB.cell (h : BlkB w g cs) (i : Nat) : w.cell? ⟨g, i, none⟩ = cs[i]? := by
  have := cell_of_row w g i cs.toArray _ (0, 0) h
  simpa using this
theorem BlkB.frozen (h : BlkB w g cs) (i : Nat) : w.frozen? ⟨g, i, none⟩ = false := frozen_of_row w g i _ _ h
theorem BlkB.new (w : World) (cs : List Value) : BlkB (w.alloc (.cells cs.toArray 5)) w.heap.size cs := heap_alloc_new w _
theorem BlkB.drewN (h : BlkB w g cs) (k : Nat) : BlkB (w.drewN k) g cs := h
theorem BlkB.alloc (h : BlkB w g cs) (o : Obj) : BlkB (w.alloc o) g cs := (Below.heap_alloc w o g h.lt).trans h
theorem BlkB.set_ (h : BlkB w g cs) (i : Nat) (u : Value) : BlkB (w.setCell ⟨g, i, none⟩ u) g (cs.set i u) := by
  have := heap_setCell_same w g i cs.toArray _ u h
  unfold BlkB
  rw [this]; simp
theorem BlkB.below {B : Nat} (h : BlkB w g cs) (hb : Below B w w') (hg : g < B) : BlkB w' g cs := (hb.block g hg).trans h
theorem BlkB.later (h : BlkB w g cs) (hb : Below w.heap.size w w') : BlkB w' g cs := h.below hb h.lt
theorem BlkB.own {base n c : Nat} {l : List UInt8} (h : BlkB w g cs) (hb : base ≤ g) (hn : n ≤ c) (hc : c ≤ maxLen) (hl : cs.length = c) (ht : cs.take n = bvs l) (hln : l.length = n) : OwnB w base (.slice (some ⟨g, 0, none⟩) n c) n l :=
  own_of_cells h hb hn hc hl (by rw [bvs_len]; exact hln) ht
end

/-- Lent bytes: l, and eight marks behind. -/
def lentL (l : List UInt8) : List UInt8 := l ++ List.replicate 8 165
theorem lentL_len (l : List UInt8) : (lentL l).length = l.length + 8 := by simp [lentL]
theorem lentL_lo {l : List UInt8} {k : Nat} (h : k < l.length) (h' : k < (lentL l).length) : (lentL l)[k] = l[k] := by simp [lentL, List.getElem_append_left, h]
theorem lentL_hi {l : List UInt8} {k : Nat} (h : l.length ≤ k) (h' : k < (lentL l).length) : (lentL l)[k] = 165 := by
  simp only [lentL]
  rw [List.getElem_append_right h, List.getElem_replicate]
def LentB (w : World) (g : Nat) (l : List UInt8) : Prop := BlkB w g (bvs (lentL l))
theorem LentB.own {w : World} {g n base : Nat} {l : List UInt8} (h : LentB w g l) (hb : base ≤ g) (hn : l.length = n) (hm : n ≤ 140737488355328) : OwnB w base (.slice (some ⟨g, 0, none⟩) n (n + 8)) n l := by
  refine BlkB.own h hb (by omega) (by unfold maxLen; omega) (by rw [bvs_len, lentL_len]; omega) ?_ hn
  rw [lentL, bvs_append, List.take_append_of_le_length (by rw [bvs_len]; omega), List.take_of_length_le (by rw [bvs_len]; omega)]
theorem LentB.bs {w : World} {g n : Nat} {l : List UInt8} (h : LentB w g l) (hn : l.length = n) (hm : n ≤ 140737488355328) : Bs w w.heap.size (some ⟨g, 0, none⟩) n l := (h.own (Nat.zero_le _) hn hm).bs

theorem lent_any (A : Option Addr) (n c : Nat) (l : List UInt8) (B : Nat) (w : World) (hA : Bs w B A n l) (hB : B ≤ w.heap.size) (hn : n ≤ 70368744177664) :
    Calls Try.prog 9 #[.slice A n c] w fun e w' => e = .returned (.slice (some ⟨w.heap.size, 0, none⟩) n (n + 8)) ∧ LentB w' w.heap.size l ∧ Below w.heap.size w w' := by
  have hmk := fun W => mk_bytes (n + 8) (n + 8) ((n : Int) + 8) (by omega) (by omega) (by omega) W
  have e8 : ((n + 8 : Nat) : Int) = (n : Int) + 8 := by omega
  rw [e8] at hmk
  clear e8
  have hlen := hA.len
  have HL := hide hlen
  clear hlen
  go_enter Try.func9, Try.ntmps9
  go_wp2
  go_loopw [4] (fun i wr => ∃ k : Nat, k ≤ n + 8 ∧ i = .int .i64 k ∧ BlkB wr w.heap.size (fillT (lentL l) k) ∧ Below w.heap.size w wr) (fun i _ => n + 8 - (intOf i).toNat)
  case atStart =>
    refine ⟨0, Nat.zero_le _, rfl, ?_, (Below.refl _ _).alloc (Nat.le_refl _) _⟩
    rw [fillT_zero, lentL_len, HL.out]
    exact BlkB.new w _
  case round =>
    obtain ⟨k, hk, rfl, hblk, hb⟩ := hrel
    by_cases hlt : k < n + 8
    · have hM : k < (lentL l).length := by rw [lentL_len, HL.out]; exact hlt
      have hcell : wr.cell? ⟨w.heap.size, k, none⟩ = some (.int .u8 0) := by rw [hblk.cell, fillT_at _ _ hM]
      have hfr := hblk.frozen k
      by_cases hkn : k < n
      · obtain ⟨ad, hl, rfl, hbl, hc⟩ := hA.at_ hkn
        have hc' := (hb.cell (by rw [block_of_add]; omega)).trans hc
        have hn2 := (hblk.set_ k (byteV l[k]))
        rw [← lentL_lo hl hM, fillT_step _ _ hM, lentL_lo hl hM] at hn2
        have hb2 := hb.setCell (p := ⟨w.heap.size, k, none⟩) (Nat.le_refl _) (byteV l[k])
        have HC := hide hc
        clear hc hblk hb
        unfold byteV at hc' hn2 hb2
        go_wp2
        go_roundw
        case rel => exact ⟨k + 1, by omega, by go_num, hn2, hb2⟩
        case measure => simp [intOf]; omega
      · have hn2 := (hblk.set_ k (byteV 165))
        have e := lentL_hi (by rw [HL.out]; omega) hM
        rw [← e, fillT_step _ _ hM, e] at hn2
        have hb2 := hb.setCell (p := ⟨w.heap.size, k, none⟩) (Nat.le_refl _) (byteV 165)
        clear hblk hb
        rw [show byteV 165 = .int .u8 165 from rfl] at hn2 hb2
        clear e
        go_wp2
        go_roundw
        case rel => exact ⟨k + 1, by omega, by go_num, hn2, hb2⟩
        case measure => simp [intOf]; omega
    · obtain rfl : k = n + 8 := by omega
      go_wp2
      go_ret
      refine ⟨rfl, ?_, hb⟩
      have e : n + 8 = (lentL l).length := by rw [lentL_len, HL.out]
      rw [e, fillT_full] at hblk
      exact hblk

theorem kept_any (A : Option Addr) (n c g : Nat) (l : List UInt8) (B : Nat) (w : World) (hA : Bs w B A n l) (hL : LentB w g l) (hn : n ≤ 70368744177664) :
    Calls Try.prog 15 #[.slice (some ⟨g, 0, none⟩) n (n + 8), .slice A n c] w fun e w' => e = .returned (.bool true) ∧ Drawn w w' := by
  have hlen := hA.len
  have hS := hL.bs hlen (by omega)
  have HL := hide hlen
  clear hlen
  have hcell : ∀ k, n ≤ k → k < n + 8 → ∀ nq, (w.drewN nq).cell? ⟨g, k, none⟩ = some (.int .u8 165) := by
    intro k h1 h2 nq
    have h3 : k < (lentL l).length := by rw [lentL_len, HL.out]; omega
    show w.cell? _ = _
    rw [BlkB.cell hL, bvs, List.getElem?_map, List.getElem?_eq_getElem h3, lentL_hi (by rw [HL.out]; exact h1) h3]
    rfl
  have HC := hide hcell
  clear hcell
  go_enter Try.func15, Try.ntmps15
  go_wp2_with fail
  refine (same_eq _ _ _ _ _ _ l l _ _ _ hS hA (by unfold maxLen; omega) rfl).mono ?_
  rintro e w' ⟨rfl, ⟨nq, rfl⟩⟩
  go_wp2
  go_loopw [6] (fun i wr => ∃ k : Nat, n ≤ k ∧ k ≤ n + 8 ∧ i = .int .i64 k ∧ Drawn w wr) (fun i _ => n + 8 - (intOf i).toNat)
  case atStart => exact ⟨n, Nat.le_refl _, by omega, rfl, drawn_one _ _⟩
  case round =>
    obtain ⟨k, hk1, hk, rfl, ⟨nr, rfl⟩⟩ := hrel
    by_cases hlt : k < n + 8
    · have hc := HC.out k hk1 hlt nr
      go_wp2
      go_roundw
      case rel => exact ⟨k + 1, by omega, by omega, by go_num, drawn_one _ _⟩
      case measure => simp [intOf]; omega
    · go_wp2
      go_ret
      exact ⟨rfl, drawn_one _ _⟩

theorem formL_at (x W k : Nat) (h : k < (formL x W).length) : (formL x W)[k] = lowB (x / 2 ^ (8 * (W - 1 - k))) := by
  simp [formL, formT]

set_option maxRecDepth 100000 in
theorem rform_any (x W : Nat) (w : World) (hx : x < 18446744073709551616) (hW : W ≤ 8) :
    Calls Try.prog 30 #[.int .u64 (x : Int), .int .i64 (W : Int)] w fun e w' => e = .returned (.slice (some ⟨w.heap.size, 0, none⟩) W W) ∧ BlkB w' w.heap.size (bvs (formL x W)) ∧ Below w.heap.size w w' := by
  have hmk := fun w0 => mk_bytes W W (W : Int) rfl (Nat.le_refl _) (by omega) w0
  go_enter Try.func30, Try.ntmps30
  go_wp2
  go_loopw [0, 6] (fun m i wr => ∃ k y : Nat, ∃ z : Int, k ≤ W ∧ i = .int .i64 z ∧ z = (k : Int) - 1 ∧ m = .int .u64 (y : Int) ∧ y = x / 2 ^ (8 * (W - k)) ∧ BlkB wr w.heap.size (backT (formL x W) k) ∧ Below w.heap.size w wr) (fun _ i _ => (intOf i + 1).toNat)
  case atStart =>
    refine ⟨W, x, _, Nat.le_refl _, rfl, rfl, rfl, by simp, ?_, (Below.refl _ _).alloc (Nat.le_refl _) _⟩
    have e := backT_full (formL x W)
    rw [formL_len] at e
    rw [e]
    exact BlkB.new w _
  case round =>
    obtain ⟨k, y, z, hk, rfl, hz, rfl, hy, hblk, hb⟩ := hrel
    by_cases h0 : 0 ≤ z
    · obtain ⟨a, rfl⟩ := Int.eq_ofNat_of_zero_le h0
      obtain rfl : k = a + 1 := by omega
      have hy64 : y < 18446744073709551616 := by rw [hy]; exact Nat.lt_of_le_of_lt (Nat.div_le_self _ _) hx
      have hM : a < (formL x W).length := by rw [formL_len]; omega
      have hcell : wr.cell? ⟨w.heap.size, a, none⟩ = some (.int .u8 0) := by rw [hblk.cell, backT_at _ _ hM]
      have hfr := hblk.frozen a
      have hn2 := hblk.set_ a (byteV (formL x W)[a])
      rw [backT_step _ _ hM, formL_at, show W - 1 - a = W - (a + 1) from by omega, ← hy, byteV, lowB_toNat] at hn2
      have hb2 := hb.setCell (p := ⟨w.heap.size, a, none⟩) (Nat.le_refl _) (.int .u8 ((y % 256 : Nat) : Int))
      have hy2 : y / 256 = x / 2 ^ (8 * (W - a)) := by
        rw [hy, Nat.div_div_eq_div_mul]
        congr 1
        rw [show (256 : Nat) = 2 ^ 8 from rfl, ← Nat.pow_add]; congr 1; omega
      have em : ((y % 256 : Nat) : Int) = (y : Int) % 256 := by omega
      rw [em] at hn2 hb2
      have HY := hide hy2
      clear hz hy hblk hb hy2 em
      go_wp2
      go_roundw
      case rel => exact ⟨a, y / 256, _, by omega, rfl, rfl, by go_num, HY.out, hn2, hb2⟩
      case measure => simp [intOf]
    · obtain rfl : k = 0 := by omega
      have HY := hide hy
      clear hz hy
      go_wp2
      go_ret
      rw [backT_zero] at hblk
      exact ⟨rfl, hblk, hb⟩
end Go.Proofs.Ytkhkihobbfecoaa
