/-
  Frames: the plain functions. What a packet's form is, what bytes are read as, and why what is spoilt is none.
-/
import Derived.Test.YtkhkihobbfecoaaPid3
import Derived.Test.YtkhkihobbfecoaaCrc2
namespace Go.Proofs.Ytkhkihobbfecoaa
open Go.RowKit
set_option linter.unusedVariables false

theorem pidG_bds (l : List UInt8) : (pidG l).1 < 65536 ∧ (pidG l).2.1 < 4294967296 ∧ (pidG l).2.2.1 ≤ l.length ∧ (pidG l).2.2.2 ≤ 5 := by
  have h1 := getF_bds l
  have h2 := getF_bds (l.drop (getF l).2.1)
  by_cases a1 : (getF l).2.2 = 0
  · by_cases a2 : (getF (l.drop (getF l).2.1)).2.2 = 0
    · by_cases a3 : (getF l).1 < 65536 ∧ (getF (l.drop (getF l).2.1)).1 < 4294967296
      · rw [pidG_4 a1 a2 a3]
        refine ⟨a3.1, a3.2, ?_, Nat.zero_le _⟩
        show (getF l).2.1 + (getF (l.drop (getF l).2.1)).2.1 ≤ l.length
        have := h2.2.1
        rw [List.length_drop] at this
        omega
      · rw [pidG_3 a1 a2 a3]; exact ⟨by decide, by decide, Nat.zero_le _, show 5 ≤ 5 by decide⟩
    · rw [pidG_2 a1 a2]; exact ⟨show 0 < 65536 by decide, show 0 < 4294967296 by decide, Nat.zero_le _, h2.2.2.2⟩
  · rw [pidG_1 a1]; exact ⟨show 0 < 65536 by decide, show 0 < 4294967296 by decide, Nat.zero_le _, h1.2.2.2⟩
/-- A process's bytes are read as it, whatever stands behind. -/
theorem pidG_put (i c : Nat) (t : List UInt8) (hi : i < 65536) (hc : c < 4294967296) : pidG (pidL i c ++ t) = (i, c, (pidL i c).length, 0) := by
  have e1 : getF (pidL i c ++ t) = (i, (shortL i).length, 0) := by
    rw [pidL, List.append_assoc]; exact getF_short i _ (by omega)
  have e2 : (pidL i c ++ t).drop (shortL i).length = shortL c ++ t := by
    rw [pidL, List.append_assoc]; simp
  have e3 : getF (shortL c ++ t) = (c, (shortL c).length, 0) := getF_short c _ (by omega)
  have h := pidG_4 (l := pidL i c ++ t)
  rw [e1] at h
  simp only at h
  rw [e2, e3] at h
  simp only at h
  rw [h trivial trivial ⟨hi, hc⟩]
  simp [pidL]

/-- May a process be? -/
def mayB (i c : Nat) : Bool := decide (i < 16) && decide (0 < c)
/-- May a packet be, but for its Body? -/
def fitB (k : Int) (i c j d : Nat) : Bool := decide (1 ≤ k) && decide (k ≤ 3) && mayB i c && mayB j d
/-- Check's answer. -/
def checkF (k : Int) (i c j d n : Nat) : Nat := if fitB k i c j d = true then (if 4096 < n then 3 else 0) else 1
theorem checkF_le (k : Int) (i c j d n : Nat) : checkF k i c j d n ≤ 3 := by
  unfold checkF; split <;> (try split) <;> omega
theorem checkF_ok {k : Int} {i c j d n : Nat} (h : checkF k i c j d n = 0) : 1 ≤ k ∧ k ≤ 3 ∧ i < 16 ∧ 0 < c ∧ j < 16 ∧ 0 < d ∧ n ≤ 4096 := by
  unfold checkF at h
  split at h
  · rename_i hf
    simp only [fitB, mayB, Bool.and_eq_true, decide_eq_true_eq] at hf
    split at h
    · cases h
    · omega
  · cases h

theorem foldl_num (acc : Nat) (b : List UInt8) : b.foldl (fun a x => a * 256 + x.toNat) acc = acc * 256 ^ b.length + numL b := by
  induction b generalizing acc with
  | nil => simp [numL]
  | cons x t ih =>
    have h1 := ih (acc * 256 + x.toNat)
    have h2 := ih (0 * 256 + x.toNat)
    simp only [List.foldl_cons, List.length_cons] at h1 h2 ⊢
    rw [h1]
    have e : numL (x :: t) = (0 * 256 + x.toNat) * 256 ^ t.length + numL t := h2
    rw [e, Nat.pow_succ, Nat.add_mul, Nat.mul_assoc, Nat.mul_comm 256, Nat.zero_mul, Nat.zero_add, Nat.add_assoc]
theorem numL_append (a b : List UInt8) : numL (a ++ b) = numL a * 256 ^ b.length + numL b := by
  have h := foldl_num (numL a) b
  rw [← h]
  simp [numL]

/-- The number at a form's head. -/
def headN (k m : Nat) : Nat := 6220316609840414720 + k * 4294967296 + m
def headL (k m : Nat) : List UInt8 := [86, 83, 1, lowB k] ++ formL m 4
theorem headL_len (k m : Nat) : (headL k m).length = 8 := by simp [headL, formL_len]
theorem head_form (k m : Nat) (hk : k < 256) (hm : m < 4294967296) : formL (headN k m) 8 = headL k m := by
  refine numL_inj 8 _ _ (formL_len _ _) (headL_len _ _) ?_
  rw [numL_form, headL, numL_append, formL_len, numL_form]
  have e : numL [86, 83, 1, lowB k] = 86 * 16777216 + 83 * 65536 + 256 + k % 256 := by
    simp [numL, lowB_toNat]
  rw [e, headN, Nat.mod_eq_of_lt hk]
  omega
theorem or_add (p P x X y : Nat) (hP : P = 2 ^ p) (hX : X = x * P) (hy : y < P) (h : X + y < 18446744073709551616) : bits .or .u64 (X : Int) (y : Int) = ((X + y : Nat) : Int) := by
  subst hP
  subst hX
  show IntKind.u64.wrap ((BitVec.ofInt 64 ((x * 2 ^ p : Nat) : Int) ||| BitVec.ofInt 64 (y : Int)).toNat : Int) = _
  rw [BitVec.toNat_or, BitVec.ofInt_natCast, BitVec.ofInt_natCast, BitVec.toNat_ofNat, BitVec.toNat_ofNat, Nat.mod_eq_of_lt (by omega), Nat.mod_eq_of_lt (by omega), or_join p _ _ hy, IntKind.wrap_u64]
  omega
theorem head_or (k m : Nat) (hk : k ≤ 3) (hm : m < 4294967296) : bits .or .u64 (bits .or .u64 6220316609840414720 ((k : Int) * 4294967296)) (m : Int) = ((headN k m : Nat) : Int) := by
  have h1 := or_add 40 1099511627776 5657345 6220316609840414720 (k * 4294967296) (by decide) (by decide) (by omega) (by omega)
  have e2 : ((k * 4294967296 : Nat) : Int) = (k : Int) * 4294967296 := by omega
  rw [e2] at h1
  have h1' : bits .or .u64 6220316609840414720 ((k : Int) * 4294967296) = ((6220316609840414720 + k * 4294967296 : Nat) : Int) := h1
  rw [h1']
  exact or_add 32 4294967296 (1448280320 + k) _ m (by decide) (by omega) (by omega) (by omega)

/-- What stands between a form's head and its sum. -/
def fldL (i c j d s : Nat) : List UInt8 := pidL i c ++ pidL j d ++ shortL s
theorem pidL_len (i c : Nat) : (pidL i c).length ≤ 20 := by
  rw [pidL, List.length_append]; have := (shortL_len i).2; have := (shortL_len c).2; omega
theorem pidL_len2 (i c : Nat) : 2 ≤ (pidL i c).length := by
  rw [pidL, List.length_append]; have := (shortL_len i).1; have := (shortL_len c).1; omega
theorem fldL_len (i c j d s : Nat) : (fldL i c j d s).length ≤ 50 := by
  rw [fldL, List.length_append, List.length_append]; have := pidL_len i c; have := pidL_len j d; have := (shortL_len s).2; omega
theorem fldL_len2 (i c j d s : Nat) : 5 ≤ (fldL i c j d s).length := by
  rw [fldL, List.length_append, List.length_append]; have := pidL_len2 i c; have := pidL_len2 j d; have := (shortL_len s).1; omega
/-- A packet's form but for its sum. -/
def bareL (k i c j d s : Nat) (l : List UInt8) : List UInt8 := headL k (12 + ((fldL i c j d s).length + l.length)) ++ (fldL i c j d s ++ l)
theorem bareL_len (k i c j d s : Nat) (l : List UInt8) : (bareL k i c j d s l).length = 8 + ((fldL i c j d s).length + l.length) := by
  rw [bareL, List.length_append, headL_len, List.length_append]
/-- A packet's form. -/
def frameL (k i c j d s : Nat) (l : List UInt8) : List UInt8 := sealL (bareL k i c j d s l)
theorem frameL_len (k i c j d s : Nat) (l : List UInt8) : (frameL k i c j d s l).length = 12 + ((fldL i c j d s).length + l.length) := by
  rw [frameL, sealL_len, bareL_len]; omega

/-- What fields bytes are read as. -/
def fieldsF (x : List UInt8) : Option (Nat × Nat × Nat × Nat × Nat × List UInt8) :=
  if (pidG x).2.2.2 = 0 then
    if (pidG (x.drop (pidG x).2.2.1)).2.2.2 = 0 then
      if (getF ((x.drop (pidG x).2.2.1).drop (pidG (x.drop (pidG x).2.2.1)).2.2.1)).2.2 = 0 then
        some ((pidG x).1, (pidG x).2.1, (pidG (x.drop (pidG x).2.2.1)).1, (pidG (x.drop (pidG x).2.2.1)).2.1, (getF ((x.drop (pidG x).2.2.1).drop (pidG (x.drop (pidG x).2.2.1)).2.2.1)).1,
          ((x.drop (pidG x).2.2.1).drop (pidG (x.drop (pidG x).2.2.1)).2.2.1).drop (getF ((x.drop (pidG x).2.2.1).drop (pidG (x.drop (pidG x).2.2.1)).2.2.1)).2.1)
      else none
    else none
  else none
theorem fieldsF_put (i c j d s : Nat) (l : List UInt8) (hi : i < 65536) (hc : c < 4294967296) (hj : j < 65536) (hd : d < 4294967296) (hs : s < 18446744073709551616) :
    fieldsF (fldL i c j d s ++ l) = some (i, c, j, d, s, l) := by
  have e0 : fldL i c j d s ++ l = pidL i c ++ (pidL j d ++ (shortL s ++ l)) := by simp [fldL]
  have e1 : pidG (fldL i c j d s ++ l) = (i, c, (pidL i c).length, 0) := by rw [e0]; exact pidG_put i c _ hi hc
  have d1 : (fldL i c j d s ++ l).drop (pidL i c).length = pidL j d ++ (shortL s ++ l) := by rw [e0]; simp
  have e2 : pidG (pidL j d ++ (shortL s ++ l)) = (j, d, (pidL j d).length, 0) := pidG_put j d _ hj hd
  have d2 : (pidL j d ++ (shortL s ++ l)).drop (pidL j d).length = shortL s ++ l := by simp
  have e3 : getF (shortL s ++ l) = (s, (shortL s).length, 0) := getF_short s l hs
  unfold fieldsF
  rw [e1]
  simp only [if_true]
  rw [d1, e2]
  simp only [if_true]
  rw [d2, e3]
  simp

/-- Bytes are the form of a packet that may be. -/
structure IsP (l : List UInt8) (k i c j d s : Nat) (r : List UInt8) : Prop where
  len : 12 ≤ l.length
  mark : l.take 3 = [86, 83, 1]
  kind : (l.getD 3 0).toNat = k
  size : numL ((l.drop 4).take 4) = l.length
  sum : numL (l.drop (l.length - 4)) = sumN (l.take (l.length - 4))
  fields : fieldsF ((l.take (l.length - 4)).drop 8) = some (i, c, j, d, s, r)
  check : checkF (k : Int) i c j d r.length = 0
/-- The error of Decode; nought where there is none. -/
def decE (l : List UInt8) : Nat :=
  if l.length < 12 then 2
  else if l.take 3 ≠ [86, 83, 1] then 6
  else if numL ((l.drop 4).take 4) ≠ l.length then 5
  else if numL (l.drop (l.length - 4)) ≠ sumN (l.take (l.length - 4)) then 4
  else match fieldsF ((l.take (l.length - 4)).drop 8) with
    | none => 5
    | some (i, c, j, d, s, r) => if checkF ((l.getD 3 0).toNat : Int) i c j d r.length ≠ 0 then 5 else 0
theorem decE_le (l : List UInt8) : decE l ≤ 6 := by
  unfold decE
  repeat' split
  all_goals omega
theorem decE_ok {l : List UInt8} (h : decE l = 0) : ∃ k i c j d s r, IsP l k i c j d s r := by
  unfold decE at h
  split at h
  · cases h
  · rename_i h1
    split at h
    · cases h
    · rename_i h2
      split at h
      · cases h
      · rename_i h3
        split at h
        · cases h
        · rename_i h4
          split at h
          · cases h
          · rename_i i c j d s r h5
            split at h
            · cases h
            · rename_i h6
              exact ⟨_, i, c, j, d, s, r, by omega, by simpa using h2, rfl, by simpa using h3, by simpa using h4, h5, by simpa using h6⟩
/-- A packet's form is read as it. -/
theorem isP_form (k i c j d s : Nat) (l : List UInt8) (hk : k < 256) (hi : i < 65536) (hc : c < 4294967296) (hj : j < 65536) (hd : d < 4294967296) (hs : s < 18446744073709551616) (hl : l.length ≤ 70368744177) (hch : checkF (k : Int) i c j d l.length = 0) :
    IsP (frameL k i c j d s l) k i c j d s l := by
  have hlen := frameL_len k i c j d s l
  have hb := bareL_len k i c j d s l
  have hf := fldL_len i c j d s
  have e4 : (frameL k i c j d s l).length - 4 = (bareL k i c j d s l).length := by omega
  have hk4 := (checkF_ok hch).2.2.2.2.2.2
  have eL : frameL k i c j d s l = [86, 83, 1, lowB k] ++ (formL (12 + ((fldL i c j d s).length + l.length)) 4 ++ ((fldL i c j d s ++ l) ++ formL (sumN (bareL k i c j d s l)) 4)) := by
    simp [frameL, sealL, bareL, headL]
  refine ⟨by omega, by rw [eL]; rfl, ?_, ?_, ?_, ?_, hch⟩
  · rw [eL]
    show (lowB k).toNat = k
    rw [lowB_toNat]; omega
  · have e5 : ((frameL k i c j d s l).drop 4).take 4 = formL (12 + ((fldL i c j d s).length + l.length)) 4 := by
      rw [eL]
      show (formL _ 4 ++ _).take 4 = _
      exact List.take_left' (formL_len _ _)
    rw [e5, numL_form, hlen]
    omega
  · rw [e4]
    exact seal_opens rfl
  · rw [e4, show (frameL k i c j d s l).take (bareL k i c j d s l).length = bareL k i c j d s l from seal_take rfl]
    have e6 : (bareL k i c j d s l).drop 8 = fldL i c j d s ++ l := by
      rw [bareL]
      exact List.drop_left' (headL_len _ _)
    rw [e6]
    exact fieldsF_put i c j d s l hi hc hj hd hs
/-- What is cut off is none. -/
theorem decE_cut {l : List UInt8} {m : Nat} (h4 : numL ((l.drop 4).take 4) = l.length) (hm : m < l.length) : decE (l.take m) ≠ 0 := by
  intro h
  obtain ⟨k, i, c, j, d, s, r, hp⟩ := decE_ok h
  have hl := hp.len
  have hs := hp.size
  rw [List.length_take] at hl hs
  have e : ((l.take m).drop 4).take 4 = (l.drop 4).take 4 := by
    rw [List.drop_take, List.take_take, Nat.min_eq_left (by omega)]
  rw [e, h4] at hs
  omega
theorem turned_no {l : List UInt8} {n k : Nat} {y : UInt8} (h : l.length = n) (hk : k < (sealL l).length) (hy : y ≠ (sealL l)[k]) : numL (((sealL l).set k y).drop n) ≠ sumN (((sealL l).set k y).take n) := by
  have hlen := sealL_len l
  rw [List.drop_set, List.take_set, seal_take h, seal_drop h]
  by_cases hkn : k < n
  · rw [if_pos hkn, seal_num]
    have hkl : k < l.length := by omega
    have e : (sealL l)[k] = l[k] := by simp [sealL, List.getElem_append_left, hkl]
    rw [e] at hy
    have e2 : l = l.take k ++ l[k] :: l.drop (k + 1) := by simp
    rw [List.set_eq_take_append_cons_drop, if_pos hkl]
    intro e3
    have e4 : sumN (l.take k ++ l[k] :: l.drop (k + 1)) = sumN (l.take k ++ y :: l.drop (k + 1)) := by rw [← e2]; exact e3
    exact sumN_tells _ _ _ _ (Ne.symm hy) e4
  · rw [if_neg hkn, List.set_eq_of_length_le (show l.length ≤ k by omega)]
    intro e
    have hf := formL_len (sumN l) 4
    have e2 : (formL (sumN l) 4).set (k - n) y = formL (sumN l) 4 := numL_inj 4 _ _ (by rw [List.length_set, hf]) hf (by rw [e, seal_num])
    have hj : k - n < (formL (sumN l) 4).length := by omega
    have e3 : ((formL (sumN l) 4).set (k - n) y)[k - n]? = some y := by rw [List.getElem?_set_self hj]
    rw [e2, List.getElem?_eq_getElem hj] at e3
    have e4 : (sealL l)[k] = (formL (sumN l) 4)[k - n] := by
      subst h
      simp only [sealL]
      rw [List.getElem_append_right (by omega)]
    apply hy
    rw [e4]
    exact (Option.some.inj e3).symm
/-- What is sealed, one byte of it another one, is none. -/
theorem decE_turned {l : List UInt8} {k : Nat} {y : UInt8} (hk : k < (sealL l).length) (hy : y ≠ (sealL l)[k]) : decE ((sealL l).set k y) ≠ 0 := by
  intro h
  obtain ⟨_, _, _, _, _, _, _, hp⟩ := decE_ok h
  have hs := hp.sum
  have e : ((sealL l).set k y).length - 4 = l.length := by rw [List.length_set, sealL_len]; omega
  rw [e] at hs
  exact turned_no rfl hk hy hs
theorem u8_turn (x : UInt8) (d : Nat) (hd : d < 256) : bits .xor .u8 (x.toNat : Int) (d : Int) = ((x ^^^ UInt8.ofNat d).toNat : Int) := by
  rw [u8_xor_nat _ _ x.toNat_lt hd, UInt8.toNat_xor]
  congr 2
  simp; omega
theorem u8_turned (x : UInt8) (d : Nat) (hd : d < 256) (h0 : d ≠ 0) : x ^^^ UInt8.ofNat d ≠ x := by
  intro e
  have e1 := congrArg UInt8.toNat e
  rw [UInt8.toNat_xor] at e1
  have e2 : (UInt8.ofNat d).toNat = d := by simp; omega
  rw [e2] at e1
  have e3 : (x.toNat ^^^ d) ^^^ x.toNat = x.toNat ^^^ x.toNat := by rw [e1]
  rw [Nat.xor_self, Nat.xor_comm x.toNat d, Nat.xor_assoc, Nat.xor_self, Nat.xor_zero] at e3
  exact h0 e3
/-- The number of the first eight bytes. -/
theorem head_num {l : List UInt8} (h : 12 ≤ l.length) : numL (l.take 8) = numL (l.take 3) * 1099511627776 + ((l.getD 3 0).toNat * 4294967296 + numL ((l.drop 4).take 4)) := by
  have h3 : 3 < l.length := by omega
  have e1 : l.take 8 = l.take 3 ++ ([l.getD 3 0] ++ (l.drop 4).take 4) := by
    have a1 : l.take 8 = l.take 3 ++ (l.drop 3).take 5 := by rw [← List.take_add]
    have a2 : l.drop 3 = l.getD 3 0 :: l.drop 4 := by
      have e := List.drop_eq_getElem_cons h3
      rw [e]
      congr 1
      rw [List.getD_eq_getElem?_getD, List.getElem?_eq_getElem h3]; rfl
    rw [a1, a2]; rfl
  have e2 : ((l.drop 4).take 4).length = 4 := by rw [List.length_take, List.length_drop]; omega
  rw [e1, numL_append, numL_append, List.length_append, e2]
  have e3 : numL [l.getD 3 0] = (l.getD 3 0).toNat := by simp [numL]
  rw [e3, show (256 : Nat) ^ ([l.getD 3 0].length + 4) = 1099511627776 from (by rw [List.length_singleton]), show (256 : Nat) ^ 4 = 4294967296 from by decide]
end Go.Proofs.Ytkhkihobbfecoaa
