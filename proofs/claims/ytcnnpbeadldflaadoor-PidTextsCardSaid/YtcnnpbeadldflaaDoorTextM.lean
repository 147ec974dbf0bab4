/-
  Texts of numbers and of processes: plain lists. No program in sight.
-/
import Derived.Lib.ItoaNum
import Derived.Lib.ParseIntB
import Derived.Lib.IndexLaws
import Derived.Lib.Strings
import Derived.Lib.IndexBytes
namespace Go.Proofs.YtcnnpbeadldflaaDoor
open Go.Lib
set_option linter.unusedVariables false

def isDig (c : UInt8) : Prop := 48 ≤ c.toNat ∧ c.toNat ≤ 57
/-- The number that digits spell, behind acc. -/
def valF (acc : Nat) (l : List UInt8) : Nat := l.foldl (fun a c => a * 10 + (c.toNat - 48)) acc
def allDig (l : List UInt8) : Prop := ∀ c ∈ l, isDig c
theorem valF_snoc (acc : Nat) (l : List UInt8) (c : UInt8) : valF acc (l ++ [c]) = valF acc l * 10 + (c.toNat - 48) := by simp [valF]
theorem dig_toNat (d : Nat) (h : d < 10) : (UInt8.ofNat (48 + d)).toNat = 48 + d := by simp; omega
theorem dec_big (u : Nat) (h : ¬ u < 10) : decDigits u = decDigits (u / 10) ++ [UInt8.ofNat (48 + u % 10)] := by rw [decDigits, dif_neg h]
theorem dec_all (n : Nat) : allDig (decDigits n) ∧ valF 0 (decDigits n) = n := by
  induction n using Nat.strongRecOn with
  | ind n ih =>
    by_cases h : n < 10
    · rw [decDigits_one h]
      have := dig_toNat n h
      refine ⟨fun c hc => ?_, ?_⟩
      · rw [List.mem_singleton] at hc
        subst hc
        exact ⟨by omega, by omega⟩
      · simp only [valF, List.foldl_cons, List.foldl_nil]
        omega
    · have h2 := ih (n / 10) (by omega)
      have := dig_toNat (n % 10) (by omega)
      rw [dec_big n h]
      refine ⟨fun c hc => ?_, ?_⟩
      · rcases List.mem_append.1 hc with hc | hc
        · exact h2.1 c hc
        · rw [List.mem_singleton] at hc
          subst hc
          exact ⟨by omega, by omega⟩
      · rw [valF_snoc, h2.2]
        omega
theorem dec_inj {m n : Nat} (h : decDigits m = decDigits n) : m = n := by rw [← (dec_all m).2, h, (dec_all n).2]
theorem dec_ne (n : Nat) : decDigits n ≠ [] := by
  by_cases h : n < 10
  · rw [decDigits_one h]; simp
  · rw [dec_big n h]; simp
theorem dec_len (n k : Nat) (hn : n < 10 ^ (k + 1)) : (decDigits n).length ≤ k + 1 := by
  induction k generalizing n with
  | zero => rw [decDigits_one (by simpa using hn)]; simp
  | succ k ih =>
    by_cases h : n < 10
    · rw [decDigits_one h]; simp
    · rw [dec_big n h, List.length_append, List.length_singleton]
      have := ih (n / 10) (by rw [Nat.pow_succ] at hn; omega)
      omega
theorem valF_ge (l : List UInt8) (acc : Nat) : acc ≤ valF acc l := by
  induction l generalizing acc with
  | nil => exact Nat.le_refl _
  | cons c r ih => have := ih (acc * 10 + (c.toNat - 48)); show acc ≤ valF (acc * 10 + (c.toNat - 48)) r; omega
theorem parse_ok (M : Nat) (hM : M < 4294967296) (l : List UInt8) (acc : Nat) (hl : allDig l) (hv : valF acc l ≤ M) : parseUintM M acc l = .ok (valF acc l) := by
  induction l generalizing acc with
  | nil => rfl
  | cons c r ih =>
    have h1 : 48 ≤ c.toNat ∧ c.toNat ≤ 57 := hl c (List.mem_cons_self ..)
    have h2 := valF_ge r (acc * 10 + (c.toNat - 48))
    have h3 : valF acc (c :: r) = valF (acc * 10 + (c.toNat - 48)) r := rfl
    rw [parseUintM, if_pos h1, if_neg (by omega), if_neg (by omega), h3]
    exact ih _ (fun x hx => hl x (List.mem_cons_of_mem _ hx)) (by omega)
theorem parseB_dec (B n : Nat) (hB : 2 ^ B ≤ 4294967296) (hn : n < 2 ^ B) : parseUintB B (decDigits n) = .ok n := by
  obtain ⟨h1, h2⟩ := dec_all n
  rw [parseUintB, if_neg (dec_ne n), parse_ok _ (by omega) _ _ h1 (by omega), h2]
theorem parseM_le (M : Nat) (l : List UInt8) (acc u : Nat) (h : parseUintM M acc l = .ok u) (ha : acc ≤ M) : u ≤ M := by
  induction l generalizing acc with
  | nil => rw [parseUintM] at h; injection h with h; omega
  | cons c r ih =>
    rw [parseUintM] at h
    split at h
    · split at h
      · cases h
      · split at h
        · cases h
        · exact ih _ h (by omega)
    · cases h
theorem parseB_lt (B : Nat) (l : List UInt8) (u : Nat) (h : parseUintB B l = .ok u) : u < 2 ^ B := by
  unfold parseUintB at h
  split at h
  · cases h
  · have := parseM_le _ _ _ _ h (Nat.zero_le _)
    have := Nat.two_pow_pos B
    omega

/-- A process's text. -/
def pidT (i k : Nat) : List UInt8 := decDigits i ++ [46] ++ decDigits k
theorem dec_no46 (n : Nat) : ∀ c ∈ decDigits n, c ≠ 46 := fun c hc e => by
  have := (dec_all n).1 c hc
  subst e
  exact absurd this.1 (by decide)
theorem index_dec (n : Nat) (r : List UInt8) : indexByte (decDigits n ++ 46 :: r) 46 = ((decDigits n).length : Int) := by
  have hg : ∀ (l : List UInt8), (∀ c ∈ l, c ≠ 46) → indexByte (l ++ 46 :: r) 46 = (l.length : Int) := by
    intro l
    induction l with
    | nil => intro _; simp [indexByte]
    | cons b l ih =>
      intro h
      have h1 := ih fun c hc => h c (List.mem_cons_of_mem _ hc)
      have h2 : (b == 46) = false := beq_eq_false_iff_ne.2 (h b (List.mem_cons_self ..))
      rw [List.cons_append, indexByte, h2, h1, List.length_cons]
      have h3 : ((l.length : Int) == -1) = false := by rw [beq_eq_false_iff_ne]; omega
      rw [h3]
      simp
  exact hg _ (dec_no46 n)
theorem pidT_index (i k : Nat) : indexByte (pidT i k) 46 = ((decDigits i).length : Int) := by
  rw [pidT, List.append_assoc]
  exact index_dec i _
theorem pidT_take (i k : Nat) : (pidT i k).take (decDigits i).length = decDigits i := by
  rw [pidT, List.append_assoc, List.take_append_of_le_length (Nat.le_refl _), List.take_length]
theorem pidT_drop (i k : Nat) : (pidT i k).drop ((decDigits i).length + 1) = decDigits k := by
  rw [pidT, List.drop_append_of_le_length (by simp), List.drop_of_length_le (by simp)]
  rfl
theorem pidT_inj {i k j m : Nat} (h : pidT i k = pidT j m) : i = j ∧ k = m := by
  have e1 := pidT_index i k
  have e2 := pidT_index j m
  rw [h, e2] at e1
  have hl : (decDigits j).length = (decDigits i).length := by omega
  have e3 := pidT_take i k
  have e4 := pidT_drop i k
  rw [h, ← hl, pidT_take] at e3
  rw [h, ← hl, pidT_drop] at e4
  exact ⟨(dec_inj e3).symm, (dec_inj e4).symm⟩
theorem pidT_len (i k : Nat) (hi : i < 65536) (hk : k < 4294967296) : (pidT i k).length ≤ 16 := by
  have h1 := dec_len i 4 (by omega)
  have h2 := dec_len k 9 (by omega)
  rw [pidT, List.length_append, List.length_append, List.length_singleton]
  omega
/-- What Parse answers: the process whose text it is, or none. -/
def TextG (l : List UInt8) (q : Nat × Nat × Nat) : Prop :=
  (∃ i k, i < 65536 ∧ k < 4294967296 ∧ l = pidT i k ∧ q = (i, k, 0)) ∨ ((∀ i k, i < 65536 → k < 4294967296 → l ≠ pidT i k) ∧ q = (0, 0, 5))
theorem TextG.some_ (l : List UInt8) : ∃ q, TextG l q := by
  by_cases h : ∃ i k, i < 65536 ∧ k < 4294967296 ∧ l = pidT i k
  · obtain ⟨i, k, hi, hk, e⟩ := h
    exact ⟨_, .inl ⟨i, k, hi, hk, e, rfl⟩⟩
  · exact ⟨_, .inr ⟨fun i k hi hk e => h ⟨i, k, hi, hk, e⟩, rfl⟩⟩
theorem str_of {s : ByteArray} {l : List UInt8} (h : s.data.toList = l) : s = ⟨l.toArray⟩ := by
  apply ByteArray.ext
  apply Array.toList_inj.1
  simp [h]
end Go.Proofs.YtcnnpbeadldflaaDoor
