/-
  Processes sorted: the contract of Sort.
-/
import Derived.Test.YtfjefhmpfnnmeaaSort3
import Derived.Maps.AppendAt
namespace Go.Proofs.Ytfjefhmpfnnmeaa
open Go.RowKit Go.Maps
set_option linter.unusedVariables false
set_option linter.unusedSimpArgs false

/-- What the loop has gathered. -/
def DedTo (l : List Pr) (k : Nat) (acc : List Pr) : Prop := acc = dedup (l.take k)
theorem DedTo.start (l : List Pr) : DedTo l 0 [] := by simp [DedTo, dedup]
theorem DedTo.step {l acc : List Pr} {k : Nat} (h : DedTo l k acc) (hk : k < l.length) : DedTo l (k + 1) (dedS acc l[k]) := by
  unfold DedTo at *
  rw [List.take_succ_eq_append_getElem hk, dedup_snoc, ← h]
theorem DedTo.done {l acc : List Pr} {k : Nat} (h : DedTo l k acc) (hk : l.length ≤ k) : acc = dedup l := by
  unfold DedTo at h
  rwa [List.take_of_length_le hk] at h
set_option maxRecDepth 100000 in
set_option maxHeartbeats 1000000 in
theorem psort_any (A : Option Addr) (n c : Nat) (l : List Pr) (B : Nat) (w : World) (hA : Es prC w B A n l) (hB : B ≤ w.heap.size) (hn : n ≤ 1000000) :
    Calls Try.prog 27 #[.slice A n c] w (MakesP w (sortP l)) := by
  have hlen := hA.len
  have HL := hide hlen
  clear hlen
  have hmm := @run_makeMap Try.prog
  obtain ⟨i0, hi, hz0, hz1, hz2⟩ := info_parts info_pid
  have h0 := DedTo.start l
  go_enter Try.func27, Try.ntmps27
  go_wp2
  go_loopw [4, 12] (fun v i wr => ∃ (k : Nat) (A' : Option Addr) (q c' : Nat) (acc : List Pr), k ≤ n ∧ i = .int .i64 k ∧ v = .slice A' q c' ∧ q ≤ k ∧ DedTo l k acc ∧ SetP wr w.heap.size k acc ∧ OwnP wr (w.heap.size + 1) (.slice A' q c') q acc ∧ Below w.heap.size w wr ∧ w.heap.size + 1 ≤ wr.heap.size) (fun _ i _ => n - (intOf i).toNat)
  case atStart => exact ⟨0, none, 0, 0, [], Nat.zero_le _, rfl, rfl, Nat.le_refl _, h0, SetP.made _, OwnE.nil_ _ _, (Below.refl _ _).alloc (Nat.le_refl _) _, by simp⟩
  case round =>
    obtain ⟨k, A', q, c', acc, hk, rfl, rfl, hqk, hded, hset, hown, hb, hsz⟩ := hrel
    by_cases hlt : k < n
    · have hAr := hA.below (hb.mono hB)
      obtain ⟨ad, hl, rfl, hbl, hc⟩ := hAr.at_ prOk hlt
      have hst := hded.step hl
      obtain ⟨p, hp⟩ : ∃ p, p = l[k] := ⟨_, rfl⟩
      rw [← hp] at hc hst
      obtain ⟨c0, c1⟩ := pr_at hc
      clear hp hc
      obtain ⟨D, hD, hh⟩ := hset
      have hkey := key_pr p
      have hhas := hh p
      have HH := hide hh
      clear hh
      by_cases hin : p ∈ acc
      · rw [decide_eq_true hin] at hhas
        have e1 : dedS acc p = acc := if_pos hin
        rw [e1] at hst
        clear e1 hin
        go_wp2_with (at_lookup; refine wpList_lookup_own_unit _ rfl _ _ 48 rfl 32 52 lawPid Try.underlying48 (zeroUnit _) w.heap.size k D rfl (hD.alloc _) _ _ rfl hkey ?_)
        go_roundw
        case rel => exact ⟨k + 1, A', q, c', acc, by omega, by go_num, rfl, by omega, hst, SetP.mono ⟨D, (hD.alloc _).alloc _, HH.out⟩ (Nat.le_succ _), (hown.alloc _).alloc _, (hb.alloc hb.size _).alloc (by have := hb.size; simp; omega) _, by simp; omega⟩
        case measure => simp [intOf]; omega
      · rw [decide_eq_false hin] at hhas
        have e1 : dedS acc p = acc ++ [p] := if_neg hin
        rw [e1] at hst
        clear e1 hin
        go_wp2_with (first
          | (at_lookup; refine wpList_lookup_own_unit _ rfl _ _ 48 rfl 32 52 lawPid Try.underlying48 (zeroUnit _) w.heap.size k D rfl (hD.alloc _) _ _ rfl hkey ?_)
          | (at_mapUpdate; refine wpList_mapUpdate_own _ rfl _ _ _ 48 rfl 32 52 lawPid Try.underlying48 unitElem w.heap.size k D rfl ((hD.alloc _).alloc _) (by unfold maxLen; omega) _ _ _ rfl rfl hkey (.agg []) [] unitElem_mk ?_; intro w1 hD1 hgrow1; refine Hid.out ?_))
        refine Lib.hid ?_
        have d0 : w1.cell? ⟨wr.heap.size, 0, none⟩ = some (.int .u16 (p.i : Int)) := hgrow1.cell (by go_simp) (by simp; omega)
        have d1 : w1.cell? ⟨wr.heap.size, 1, none⟩ = some (.int .u32 (p.k : Int)) := hgrow1.cell (by go_simp) (by simp; omega)
        have hz1 : wr.heap.size + 2 ≤ w1.heap.size := by have := hgrow1.size; simpa using this
        have hown1 := ((hown.alloc _).alloc _).grown hgrow1 (Nat.lt_succ_self _)
        have hb1 : Below w.heap.size w w1 := ((hb.alloc hb.size (.cells #[.int .u16 (p.i : Int), .int .u32 (p.k : Int)] 32)).alloc (by have := hb.size; simp; omega) (.cells #[] 52)).grown hgrow1 (by have := hb.size; simp; omega) (fun j hj => by injection hj with hj; omega)
        have hset1 := SetP.put hD HH.out (.agg []) hD1
        have HB := hide hb1
        have HS := hide hset1
        clear hhas hb1 hset1 hgrow1 hD hD1 c0 c1
        go_wp2_with (at_builtin; refine wp_append_e _ rfl (.tmp 26) (.tmp 28) 22 rfl 32 i0 _ 8 Try.underlying22 hi hz0 ‹_› hz2 rfl prOk (w.heap.size + 1) q _ acc rfl (hown1.alloc _) (w1.heap.size + 1) _ 1 1 [p] rfl (es_lit w1 p _) (by unfold maxLen; omega) (by omega) w.heap.size w (HB.out.alloc HB.out.size _) (Nat.le_succ _) (by simp; omega) ?_; intro A2 c2 w2 r1 r2 r3 r4; refine Hid.out ?_)
        have r5 : (w1.alloc (.cells #[.int .u16 (p.i : Int), .int .u32 (p.k : Int)] 32)).grownBy w2 (Value.slice A' q c').ownBlock := r4
        have r6 : OwnP w2 (w.heap.size + 1) (.slice A2 (q + 1) c2) (q + 1) (acc ++ [p]) := r1
        have r7 : SetP w2 w.heap.size (k + 1) (acc ++ [p]) := (HS.out.alloc _).grown r5 (fun e => by have := hown.lt _ e.symm; omega)
        have r8 : w.heap.size + 1 ≤ w2.heap.size := by simp at r3; omega
        refine Lib.hid ?_
        clear r1 r3 r4 r5 d0 d1 hown1
        go_wp2_with fail
        go_roundw
        case rel => exact ⟨k + 1, A2, q + 1, c2, _, by omega, by go_num, rfl, by omega, hst, r7, r6, r2, r8⟩
        case measure => simp [intOf]; omega
    · have hd := hded.done (by rw [HL.out]; omega)
      have HD := hide hd
      clear hd hded h0 hset
      have c1 := sortfunc_any A' q c' (w.heap.size + 1) acc l wr hown HD.out (by omega)
      have HO := hide hown
      go_wp2_with fail
      refine c1.mono ?_
      rintro _ w' ⟨rfl, ho, hbel⟩
      have hb2 := hbel w.heap.size w hb (Nat.le_succ _) (by omega)
      have hlen2 := OwnE.len prOk ho
      have HH := hide (And.intro ho (And.intro hb2 hlen2))
      clear ho hb2 hlen2 hbel hb hown
      go_wp2
      go_ret
      obtain ⟨ho, hb2, hlen2⟩ := HH.out
      subst hlen2
      exact ⟨A', c', rfl, ho.mono (Nat.le_succ _), hb2⟩
end Go.Proofs.Ytfjefhmpfnnmeaa
