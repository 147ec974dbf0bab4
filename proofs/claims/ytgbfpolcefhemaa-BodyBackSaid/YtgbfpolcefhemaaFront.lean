/-
  What was laid is read: the methods' contracts where a form stands at the beginning.
-/
import Derived.Test.YtgbfpolcefhemaaRd5
namespace Go.Proofs.Ytgbfpolcefhemaa
open Go.RowKit
set_option linter.unusedVariables false
set_option linter.unusedSimpArgs false

theorem numE_front (n most : Nat) (t : List UInt8) (hn : n < 18446744073709551616) (hm : n ≤ most) : numE (shortL n ++ t) most = 0 := by
  unfold numE
  rw [getF_short n t hn]
  simp only [if_true]
  rw [if_neg (by omega)]
theorem rest_front (n : Nat) (t : List UInt8) (hn : n < 18446744073709551616) : (shortL n ++ t).drop (getF (shortL n ++ t)).2.1 = t := by
  rw [getF_short n t hn]
  exact List.drop_left
theorem rdnum_front (b n most : Nat) (t : List UInt8) (w : World) (h : RdAt w b (shortL n ++ t) 0) (hm : n ≤ most) (hmost : most < 18446744073709551616) :
    Calls Try.prog 13 #[.pointer (some ⟨b, 0, none⟩), .int .u64 (most : Int)] w (ReadsP w b (.int .u64 (n : Int)) t 0) := by
  have hn : n < 18446744073709551616 := by omega
  have := rdnum_ok b _ most w h hmost (numE_front n most t hn hm)
  rw [rest_front n t hn, getF_short n t hn] at this
  exact this
theorem rdnum_max (b n : Nat) (t : List UInt8) (w : World) (h : RdAt w b (shortL n ++ t) 0) (hn : n < 18446744073709551616) :
    Calls Try.prog 13 #[.pointer (some ⟨b, 0, none⟩), .int .u64 18446744073709551615] w (ReadsP w b (.int .u64 (n : Int)) t 0) := by
  have := rdnum_front b n 18446744073709551615 t w h (by omega) (by decide)
  rwa [show ((18446744073709551615 : Nat) : Int) = 18446744073709551615 from rfl] at this
theorem rdtruth_front (b : Nat) (x : Bool) (t : List UInt8) (w : World) (h : RdAt w b ([if x then 1 else 0] ++ t) 0) :
    Calls Try.prog 14 #[.pointer (some ⟨b, 0, none⟩)] w (ReadsP w b (.bool x) t 0) := by
  refine (rdtruth_any b _ w h).mono fun e w' hw => ?_
  have hE : truE ([if x then 1 else 0] ++ t) = 0 := by cases x <;> rfl
  have hV : truV ([if x then 1 else 0] ++ t) = x := by cases x <;> rfl
  rcases hw with ⟨_, v, h1, h2, h3, h4⟩ | ⟨h1, _⟩
  · rw [hV] at h2
    subst h2
    exact ⟨h1, h3, h4⟩
  · exact absurd hE h1
theorem rdpid_front (b i k : Nat) (t : List UInt8) (w : World) (h : RdAt w b (pidL i k ++ t) 0) (hi : i < 65536) (hk : k < 4294967296) :
    Calls Try.prog 15 #[.pointer (some ⟨b, 0, none⟩)] w (ReadsP w b (.agg #[.int .u16 (i : Int), .int .u32 (k : Int)]) t 0) := by
  have e := pidG_put i k t hi hk
  have := rdpid_ok b _ w h (by rw [e])
  rw [e] at this
  simp only [List.drop_left] at this
  exact this
theorem rdballot_front (b r i k : Nat) (t : List UInt8) (w : World) (h : RdAt w b ((shortL r ++ pidL i k) ++ t) 0) (hr : r < 4294967296) (hi : i < 65536) (hk : k < 4294967296) :
    Calls Try.prog 16 #[.pointer (some ⟨b, 0, none⟩)] w (ReadsP w b (.agg #[.int .u32 (r : Int), .int .u16 (i : Int), .int .u32 (k : Int)]) t 0) := by
  rw [List.append_assoc] at h
  have e := pidG_put i k t hi hk
  have hr' : r < 18446744073709551616 := by omega
  have e1 := numE_front r 4294967295 (pidL i k ++ t) hr' (by omega)
  have e2 := rest_front r (pidL i k ++ t) hr'
  have e3 := getF_short r (pidL i k ++ t) hr'
  have hE : balE (shortL r ++ (pidL i k ++ t)) = 0 := by
    unfold balE
    rw [if_pos e1, e2, e]
  refine (rdballot_any b _ w h).mono fun e' w' hw => ?_
  rcases hw with ⟨_, v, h1, h2, h3, h4⟩ | ⟨h1, _⟩
  · rw [e2, e] at h2 h3
    rw [e3] at h2
    simp only [List.drop_left] at h3
    subst h2
    exact ⟨h1, h3, h4⟩
  · exact absurd hE h1
/-- Bytes that are read, in memory of their own. -/
def ReadsB (w : World) (b n : Nat) (l t : List UInt8) (e : Ending) (w' : World) : Prop := ∃ A c, e = .returned (.slice A n c) ∧ OwnB w' w.heap.size (.slice A n c) n l ∧ RdAt w' b t 0 ∧ Turn w w' b none
theorem rdbytes_front (b n : Nat) (most : Int) (l t : List UInt8) (w : World) (h : RdAt w b ((shortL n ++ l) ++ t) 0) (hl : l.length = n) (h0 : 0 ≤ most) (hm : (n : Int) ≤ most) (hmost : most ≤ 1000000) (ht : t.length ≤ 10000000) :
    Calls Try.prog 17 #[.pointer (some ⟨b, 0, none⟩), .int .i64 most] w (ReadsB w b n l t) := by
  rw [List.append_assoc] at h
  have hn : n < 18446744073709551616 := by omega
  have hmf : n ≤ mostF most := by unfold mostF; omega
  have e1 := numE_front n (mostF most) (l ++ t) hn hmf
  have e2 := rest_front n (l ++ t) hn
  have e3 := getF_short n (l ++ t) hn
  have hE : bytE (shortL n ++ (l ++ t)) (mostF most) = 0 := by
    unfold bytE
    rw [if_pos e1, e2, e3]
    rw [if_neg (by simp only [List.length_append]; omega)]
  have hV : bytV (shortL n ++ (l ++ t)) = l := by
    unfold bytV
    rw [e2, e3, ← hl]
    exact List.take_left
  have hR : bytR (shortL n ++ (l ++ t)) = t := by
    unfold bytR
    rw [e2, e3, ← hl]
    exact List.drop_left
  have h10 := (shortL_len n).2
  refine (rdbytes_any b _ most w h (by omega) (by omega) (by rw [List.length_append, List.length_append]; omega)).mono fun e' w' hw => ?_
  rcases hw with ⟨_, v, h1, h2, h3, h4⟩ | ⟨h1, _⟩
  · rw [hV] at h2
    rw [hR] at h3
    obtain ⟨A, c, rfl, hO⟩ := h2
    rw [hl] at h1 hO
    exact ⟨A, c, h1, hO, h3, h4⟩
  · exact absurd hE h1
/-- Processes that are read, in memory of their own. -/
def ReadsPs (w : World) (b n : Nat) (l : List Pr) (t : List UInt8) (e : Ending) (w' : World) : Prop := ∃ A c, e = .returned (.slice A n c) ∧ OwnP w' w.heap.size (.slice A n c) n l ∧ RdAt w' b t 0 ∧ Turn w w' b none
theorem rdpids_front (b n : Nat) (most : Int) (l : List Pr) (t : List UInt8) (w : World) (h : RdAt w b ((shortL n ++ pidsL l) ++ t) 0) (hl : l.length = n) (h0 : 0 ≤ most) (hm : (n : Int) ≤ most) (hmost : most ≤ 1000000) :
    Calls Try.prog 19 #[.pointer (some ⟨b, 0, none⟩), .int .i64 most] w (ReadsPs w b n l t) := by
  rw [List.append_assoc] at h
  have hn : n < 18446744073709551616 := by omega
  have hmf : n ≤ mostF most := by unfold mostF; omega
  have e1 := numE_front n (mostF most) (pidsL l ++ t) hn hmf
  have e2 := rest_front n (pidsL l ++ t) hn
  have e3 := getF_short n (pidsL l ++ t) hn
  have e4 := prd_pids l t
  rw [hl] at e4
  have hE : psE (shortL n ++ (pidsL l ++ t)) (mostF most) = 0 := by
    unfold psE
    rw [if_pos e1, e2, e3, e4]
  have hV : psV (shortL n ++ (pidsL l ++ t)) = l := by
    unfold psV
    rw [e2, e3, e4]
  have hR : psR (shortL n ++ (pidsL l ++ t)) = t := by
    unfold psR
    rw [e2, e3, e4]
  refine (rdpids_any b _ most w h (by omega) hmost).mono fun e' w' hw => ?_
  rcases hw with ⟨_, v, h1, h2, h3, h4⟩ | ⟨h1, _⟩
  · rw [hV] at h2
    rw [hR] at h3
    obtain ⟨A, c, rfl, hO⟩ := h2
    rw [hl] at h1 hO
    exact ⟨A, c, h1, hO, h3, h4⟩
  · exact absurd hE h1
end Go.Proofs.Ytgbfpolcefhemaa
