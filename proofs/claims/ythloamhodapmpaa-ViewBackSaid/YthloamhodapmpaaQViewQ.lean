/-
  What was laid is read: the methods' contracts where a form stands at the beginning.
-/
import Derived.Test.YthloamhodapmpaaQRd5
import Derived.Test.YthloamhodapmpaaQViewO
namespace Go.Proofs.Ythloamhodapmpaa
open Go.RowKit
set_option linter.unusedVariables false
set_option linter.unusedSimpArgs false

theorem numE_front (n most : Nat) (t : List UInt8) (hn : n < 18446744073709551616) (hm : n ≤ most) : numE (shortL n ++ t) most = 0 := by
  unfold numE
  rw [getF_short n t hn]
  simp only [if_true]
  rw [if_neg (by omega)]
theorem rest_front (n : Nat) (t : List UInt8) (hn : n < 18446744073709551616) : (shortL n ++ t).drop (getF (shortL n ++ t)).2.1 = t := by
  rw [getF_short n t hn]
  exact List.drop_left
theorem rdnum_front (b n most : Nat) (t : List UInt8) (w : World) (h : RdAt w b (shortL n ++ t) 0) (hm : n ≤ most) (hmost : most < 18446744073709551616) :
    Calls Try.prog 61 #[.pointer (some ⟨b, 0, none⟩), .int .u64 (most : Int)] w (ReadsP w b (.int .u64 (n : Int)) t 0) := by
  have hn : n < 18446744073709551616 := by omega
  have := rdnum_ok b _ most w h hmost (numE_front n most t hn hm)
  rw [rest_front n t hn, getF_short n t hn] at this
  exact this
theorem rdnum_max (b n : Nat) (t : List UInt8) (w : World) (h : RdAt w b (shortL n ++ t) 0) (hn : n < 18446744073709551616) :
    Calls Try.prog 61 #[.pointer (some ⟨b, 0, none⟩), .int .u64 18446744073709551615] w (ReadsP w b (.int .u64 (n : Int)) t 0) := by
  have := rdnum_front b n 18446744073709551615 t w h (by omega) (by decide)
  rwa [show ((18446744073709551615 : Nat) : Int) = 18446744073709551615 from rfl] at this
theorem rdpid_front (b i k : Nat) (t : List UInt8) (w : World) (h : RdAt w b (pidL i k ++ t) 0) (hi : i < 65536) (hk : k < 4294967296) :
    Calls Try.prog 83 #[.pointer (some ⟨b, 0, none⟩)] w (ReadsP w b (.agg #[.int .u16 (i : Int), .int .u32 (k : Int)]) t 0) := by
  have e := pidG_put i k t hi hk
  have := rdpid_ok b _ w h (by rw [e])
  rw [e] at this
  simp only [List.drop_left] at this
  exact this
/-- Bytes that are read, in memory of their own. -/
def ReadsB (w : World) (b n : Nat) (l t : List UInt8) (e : Ending) (w' : World) : Prop := ∃ A c, e = .returned (.slice A n c) ∧ OwnB w' w.heap.size (.slice A n c) n l ∧ RdAt w' b t 0 ∧ Turn w w' b none
/-- Processes that are read, in memory of their own. -/
def ReadsPs (w : World) (b n : Nat) (l : List Pr) (t : List UInt8) (e : Ending) (w' : World) : Prop := ∃ A c, e = .returned (.slice A n c) ∧ OwnP w' w.heap.size (.slice A n c) n l ∧ RdAt w' b t 0 ∧ Turn w w' b none
theorem rdpids_front (b n : Nat) (most : Int) (l : List Pr) (t : List UInt8) (w : World) (h : RdAt w b ((shortL n ++ pidsL l) ++ t) 0) (hl : l.length = n) (h0 : 0 ≤ most) (hm : (n : Int) ≤ most) (hmost : most ≤ 1000000) :
    Calls Try.prog 62 #[.pointer (some ⟨b, 0, none⟩), .int .i64 most] w (ReadsPs w b n l t) := by
  rw [List.append_assoc] at h
  have hn : n < 18446744073709551616 := by omega
  have hmf : n ≤ mostF most := by unfold mostF; omega
  have e1 := numE_front n (mostF most) (pidsL l ++ t) hn hmf
  have e2 := rest_front n (pidsL l ++ t) hn
  have e3 := getF_short n (pidsL l ++ t) hn
  have e4 := prd_pids l t
  rw [hl] at e4
  have hE : psE (shortL n ++ (pidsL l ++ t)) (mostF most) = 0 := by
    unfold psE
    rw [if_pos e1, e2, e3, e4]
  have hV : psV (shortL n ++ (pidsL l ++ t)) = l := by
    unfold psV
    rw [e2, e3, e4]
  have hR : psR (shortL n ++ (pidsL l ++ t)) = t := by
    unfold psR
    rw [e2, e3, e4]
  refine (rdpids_any b _ most w h (by omega) hmost).mono fun e' w' hw => ?_
  rcases hw with ⟨_, v, h1, h2, h3, h4⟩ | ⟨h1, _⟩
  · rw [hV] at h2
    rw [hR] at h3
    obtain ⟨A, c, rfl, hO⟩ := h2
    rw [hl] at h1 hO
    exact ⟨A, c, h1, hO, h3, h4⟩
  · exact absurd hE h1
end Go.Proofs.Ythloamhodapmpaa
namespace Go.Proofs.Ythloamhodapmpaa
open Go.RowKit Go.Maps
set_option linter.unusedVariables false
set_option linter.unusedSimpArgs false

theorem rkL_drop (mem : List Pr) {l : List Pr} {j : Nat} (h : j < l.length) (t : List UInt8) : rkL mem (l.drop j) ++ t = shortL (plc mem l[j]) ++ (rkL mem (l.drop (j + 1)) ++ t) := by
  rw [List.drop_eq_getElem_cons h, rkL, List.append_assoc]
set_option maxRecDepth 100000 in
set_option maxHeartbeats 4000000 in
theorem getsome_any (b n c : Nat) (A : Option Addr) (mem l : List Pr) (t : List UInt8) (w : World) (h : RdAt w b (someL mem l ++ t) 0)
    (hM : ∀ W, Turn w W b none → Es prC W W.heap.size A n mem) (hn : n ≤ 40) (hl : l.length ≤ 24) (hmem : ∀ p ∈ l, p ∈ mem) :
    Calls Try.prog 63 #[.pointer (some ⟨b, 0, none⟩), .slice A n c] w (ReadsPs w b l.length l t) := by
  obtain ⟨i0, hi, hz0, hz1, hz2⟩ := info_parts info_pid
  have hmn := (hM w (Turn.refl _ _ _)).len
  have hlt := h.lt
  unfold someL at h
  rw [List.append_assoc] at h
  have cn := rdnum_front b l.length 24 (rkL mem l ++ t) w h hl (by decide)
  have HM := hide (And.intro hM hmem)
  clear hM hmem h
  go_enter Try.func63, Try.ntmps63
  go_wp2_with fail
  refine cn.mono ?_
  rintro e w2 ⟨rfl, h2, ht2⟩
  clear cn
  go_wp2
  go_loopw [5, 8] (fun v i wr => ∃ (j : Nat) (A' : Option Addr) (c' : Nat), j ≤ l.length ∧ i = .int .u64 j ∧ v = .slice A' j c' ∧ OwnP wr w.heap.size (.slice A' j c') j (l.take j) ∧ RdAt wr b (rkL mem (l.drop j) ++ t) 0 ∧ Turn w wr b none) (fun _ i _ => l.length - (intOf i).toNat)
  case atStart => exact ⟨0, none, 0, Nat.zero_le _, rfl, rfl, OwnE.nil_ _ _, by simpa using h2, ht2⟩
  case round =>
    clear h2 ht2
    obtain ⟨j, A', c', hj, rfl, rfl, hO, hR, hT⟩ := hrel
    have hsz := hT.size
    by_cases hjl : j < l.length
    · rw [rkL_drop mem hjl t] at hR
      have hqm : l[j] ∈ mem := HM.out.2 _ (List.getElem_mem hjl)
      have hst := List.take_succ_eq_append_getElem hjl
      obtain ⟨q, hq⟩ : ∃ q, q = l[j] := ⟨_, rfl⟩
      rw [← hq] at hR hqm hst
      have hk := plc_lt hqm
      have hat := plc_at hqm
      obtain ⟨k, hke⟩ : ∃ k, k = plc mem q := ⟨_, rfl⟩
      rw [← hke] at hR hk hat
      obtain ⟨m, hm⟩ : ∃ m, n = m + 1 := ⟨n - 1, by omega⟩
      have e1 : ((n : Int) == 0) = false := by simp only [beq_eq_false_iff_ne, ne_eq]; omega
      have e2 : (n : Int) - 1 = (m : Int) := by omega
      have e3 : IntKind.u64.wrap (m : Int) = (m : Int) := by rw [IntKind.wrap_u64]; omega
      have e4 : IntKind.u64.wrap ((j : Int) + 1) = ((j + 1 : Nat) : Int) := by rw [IntKind.wrap_u64]; omega
      have cp := rdnum_front b k m (rkL mem (l.drop (j + 1)) ++ t) wr hR (by omega) (by omega)
      have x1 : (0 : Int) ≤ (k : Int) := by omega
      have x2 : (k : Int) < (n : Int) := by omega
      have x3 : k < n := by omega
      have HS := hide hst
      clear hst hke hR hqm hq hm
      go_wp2_with fail
      refine cp.mono ?_
      rintro e w3 ⟨rfl, h3, ht3⟩
      have hO3 := hO.turnLow ht3 hlt
      have hT3 := hT.trans ht3 (Mov.refl _ _)
      have hs3 := hT3.size
      obtain ⟨ad, hl2, rfl, hbl, hc⟩ := (HM.out.1 w3 hT3).at_ prOk x3
      rw [show mem[k] = q from Option.some.inj ((List.getElem?_eq_getElem hl2).symm.trans hat)] at hc
      obtain ⟨c0, c1⟩ := pr_at hc
      clear cp hO hT hc hat hbl ht3
      go_wp2_with (at_builtin; refine wp_append_e _ rfl (.tmp 15) (.tmp 25) 23 rfl 34 i0 _ 8 Try.underlying23 hi hz0 ‹_› hz2 rfl prOk w.heap.size j _ (l.take j) rfl (hO3.alloc _) (w3.heap.size + 1) _ 1 1 [q] rfl (es_pr w3 q _) (by unfold maxLen; omega) (by omega) 0 _ (Below.refl _ _) (Nat.zero_le _) (by simp; omega) ?_; intro A2 c2 w4 r1 r2 r3 r4; refine Hid.out ?_)
      have r5 : (w3.alloc (.cells #[.int .u16 (q.i : Int), .int .u32 (q.k : Int)] 34)).grownBy w4 (Value.slice A' j c').ownBlock := r4
      have r6 : OwnP w4 w.heap.size (.slice A2 (j + 1) c2) (j + 1) (l.take j ++ [q]) := r1
      rw [← HS.out] at r6
      have hT4 := (hT3.alloc (.cells #[.int .u16 (q.i : Int), .int .u32 (q.k : Int)] 34)).grownNew r5 (fun g hg => (hO3.lt g hg).1)
      have hR4 := (h3.alloc (.cells #[.int .u16 (q.i : Int), .int .u32 (q.k : Int)] 34)).grown r5 (fun g hg => by have := (hO3.lt g hg).1; omega)
      have HR := hide (And.intro r6 (And.intro hR4 hT4))
      refine Lib.hid ?_
      clear r1 r2 r3 r4 r5 r6 hT4 hR4 hO3 hT3 h3 HS c0 c1
      go_wp2_with fail
      go_roundw
      case rel => exact ⟨j + 1, A2, c2, by omega, by go_num, rfl, HR.out⟩
      case measure => simp [intOf]; omega
    · have hjj : j = l.length := by omega
      have e5 : l.take j = l := List.take_of_length_le (by omega)
      have e6 : rkL mem (l.drop j) ++ t = t := by rw [List.drop_eq_nil_of_le (by omega)]; rfl
      rw [e5] at hO
      rw [e6] at hR
      clear e5 e6
      subst hjj
      have hw : ReadsPs w b l.length l t (.returned (.slice A' l.length c')) wr := ⟨A', c', rfl, hO, hR, hT⟩
      have HW := Lib.hid hw
      clear hw hO hR hT
      go_wp2
      go_ret
      exact HW.out
end Go.Proofs.Ythloamhodapmpaa
