/-
  Sets of processes: what of a row is in a set, or isn't (pick, Minus, Common); the document's Without, Minus, Common.
-/
import Derived.Test.YthloamhodapmpaaQSet4
namespace Go.Proofs.Ythloamhodapmpaa
open Go.RowKit Go.Maps
set_option linter.unusedVariables false
set_option linter.unusedSimpArgs false

/-- What of the first k of l is told of by f. -/
def FilTo (f : Pr → Bool) (l : List Pr) (k : Nat) (acc : List Pr) : Prop := acc = (l.take k).filter f
theorem FilTo.start (f : Pr → Bool) (l : List Pr) : FilTo f l 0 [] := by simp [FilTo]
theorem FilTo.yes {f : Pr → Bool} {l acc : List Pr} {k : Nat} (h : FilTo f l k acc) (hk : k < l.length) (hf : f l[k] = true) : FilTo f l (k + 1) (acc ++ [l[k]]) := by
  unfold FilTo at *
  rw [List.take_succ_eq_append_getElem hk, List.filter_append, ← h]
  simp [hf]
theorem FilTo.no {f : Pr → Bool} {l acc : List Pr} {k : Nat} (h : FilTo f l k acc) (hk : k < l.length) (hf : f l[k] = false) : FilTo f l (k + 1) acc := by
  unfold FilTo at *
  rw [List.take_succ_eq_append_getElem hk, List.filter_append, ← h]
  simp [hf]
theorem FilTo.done {f : Pr → Bool} {l acc : List Pr} {k : Nat} (h : FilTo f l k acc) (hk : l.length ≤ k) : acc = l.filter f := by
  unfold FilTo at h
  rwa [List.take_of_length_le hk] at h
set_option maxRecDepth 100000 in
theorem spick_any (A : Option Addr) (n c : Nat) (l : List Pr) (b : Nat) (mg : Option Nat) (s : List Pr) (t : Bool) (B : Nat) (w : World) (hA : Es prC w B A n l) (hB : B ≤ w.heap.size) (hs : SetAt w b mg s) (hn : n ≤ 1000000) :
    Calls Try.prog 72 #[.slice A n c, .pointer (some ⟨b, 0, none⟩), .bool t] w (MakesP w (l.filter fun p => decide (p ∈ s) == t)) := by
  obtain ⟨f, hf⟩ : ∃ f : Pr → Bool, f = fun p => decide (p ∈ s) == t := ⟨_, rfl⟩
  rw [← hf]
  have hff : ∀ p, f p = (decide (p ∈ s) == t) := fun p => by rw [hf]
  have HF := hide hff
  clear hf hff
  have hlen := hA.len
  have HL := hide hlen
  clear hlen
  obtain ⟨i0, hi, hz0, hz1, hz2⟩ := info_parts info_pid
  have h0 := FilTo.start f l
  go_enter Try.func72, Try.ntmps72
  go_wp2
  go_loopw [7, 12] (fun v i wr => ∃ (k : Nat) (A' : Option Addr) (q c' : Nat) (acc : List Pr), k ≤ n ∧ i = .int .i64 k ∧ v = .slice A' q c' ∧ q ≤ k ∧ FilTo f l k acc ∧ OwnP wr w.heap.size (.slice A' q c') q acc ∧ Below w.heap.size w wr) (fun _ i _ => n - (intOf i).toNat)
  case atStart => exact ⟨0, none, 0, 0, [], Nat.zero_le _, rfl, rfl, Nat.le_refl _, h0, OwnE.nil_ _ _, Below.refl _ _⟩
  case round =>
    obtain ⟨k, A', q, c', acc, hk, rfl, rfl, hqk, hto, hown, hb⟩ := hrel
    have hsz := hb.size
    by_cases hlt : k < n
    · have hAr := hA.below (hb.mono hB)
      obtain ⟨ad, hl, rfl, hbl, hc⟩ := hAr.at_ prOk hlt
      have hyes := hto.yes hl
      have hno := hto.no hl
      obtain ⟨p, hp⟩ : ∃ p, p = l[k] := ⟨_, rfl⟩
      rw [← hp] at hc hyes hno
      obtain ⟨c0, c1⟩ := pr_at hc
      clear hp hc
      have cn := shas_any b mg s p _ ((hs.later hb).alloc (.cells #[.int .u16 (p.i : Int), .int .u32 (p.k : Int)] 34))
      have d0 : (wr.alloc (.cells #[.int .u16 (p.i : Int), .int .u32 (p.k : Int)] 34)).cell? ⟨wr.heap.size, 0, none⟩ = some (.int .u16 (p.i : Int)) := by go_simp
      have d1 : (wr.alloc (.cells #[.int .u16 (p.i : Int), .int .u32 (p.k : Int)] 34)).cell? ⟨wr.heap.size, 1, none⟩ = some (.int .u32 (p.k : Int)) := by go_simp
      have hb1 : Below w.heap.size w (wr.alloc (.cells #[.int .u16 (p.i : Int), .int .u32 (p.k : Int)] 34)) := hb.alloc hb.size _
      have ho1 : OwnP (wr.alloc (.cells #[.int .u16 (p.i : Int), .int .u32 (p.k : Int)] 34)) w.heap.size (.slice A' q c') q acc := hown.alloc _
      have hz := hb1.size
      have hfp := HF.out p
      clear hto hown hAr hb
      by_cases hin : (decide (p ∈ s) == t) = true
      · have hst := hyes (hfp.trans hin)
        have ht : decide (p ∈ s) = t := by simpa using hin
        rw [ht] at cn
        clear hyes hno hfp hin ht
        go_wp2_with fail
        refine cn.mono ?_
        rintro e w1 ⟨rfl, hb2⟩
        have f0 := cell_later d0 hb2
        have f1 := cell_later d1 hb2
        have hown1 := OwnE.later ho1 hb2
        have hb3 := hb1.trans (hb2.mono hz)
        have hz3 := hb3.size
        clear hb2 hb1 ho1 hz cn c0 c1 d0 d1
        have HB := hide hb3
        clear hb3
        have htt : (t == t) = true := by simp
        go_wp2_with (at_builtin; refine wp_append_e _ rfl (.tmp 21) (.tmp 23) 23 rfl 34 i0 _ 8 Try.underlying23 hi hz0 hz1 hz2 rfl prOk w.heap.size q _ acc rfl (hown1.alloc _) (w1.heap.size + 1) _ 1 1 [p] rfl (es_lit w1 p _) (by unfold maxLen; omega) (by omega) w.heap.size w (HB.out.alloc HB.out.size _) (Nat.le_refl _) (by simp; omega) ?_; intro A2 c2 w2 r1 r2 r3 r4; refine Hid.out ?_)
        refine Lib.hid ?_
        clear r3 r4 hown1 f0 f1 htt
        go_wp2_with fail
        go_roundw
        case rel => exact ⟨k + 1, A2, q + 1, c2, acc ++ [p], by omega, by go_num, rfl, by omega, hst, r1, r2⟩
        case measure => simp [intOf]; omega
      · have hin' : (decide (p ∈ s) == t) = false := by simpa using hin
        have hst := hno (hfp.trans hin')
        clear hyes hno hfp hin
        go_wp2_with fail
        refine cn.mono ?_
        rintro e w1 ⟨rfl, hb2⟩
        have hown1 := OwnE.later ho1 hb2
        have hb3 := hb1.trans (hb2.mono hz)
        clear hb2 hb1 ho1 hz cn c0 c1 d0 d1
        go_wp2
        go_roundw
        case rel => exact ⟨k + 1, A', q, c', acc, by omega, by go_num, rfl, by omega, hst, hown1, hb3⟩
        case measure => simp [intOf]; omega
    · have hd := hto.done (by rw [HL.out]; omega)
      have hlen2 := OwnE.len prOk hown
      have HH := hide (And.intro hd (And.intro hown (And.intro hb hlen2)))
      clear hd hto hown hb hlen2
      go_wp2
      go_ret
      obtain ⟨hd, ho, hb2, hlen2⟩ := HH.out
      rw [← hd]
      subst hlen2
      exact ⟨A', c', rfl, ho, hb2⟩
set_option maxRecDepth 100000 in
theorem scommon_any (A : Option Addr) (n c : Nat) (l : List Pr) (B : Nat) (A' : Option Addr) (m c' : Nat) (o : List Pr) (B' : Nat) (w : World) (hA : Es prC w B A n l) (hB : B ≤ w.heap.size) (hA' : Es prC w B' A' m o) (hB' : B' ≤ w.heap.size) (hn : n ≤ 1000000) (hm : m ≤ 1000000) :
    Calls Try.prog 50 #[.slice A n c, .slice A' m c'] w (MakesP w (l.filter fun p => decide (p ∈ o))) := by
  have cn := snew_any A' m c' o B' w hA' hB' hm
  have cp := fun b mg W (hb : Below w.heap.size w W) (hs : SetAt W b mg (dedup o)) => spick_any A n c l b mg (dedup o) true B W (hA.below (hb.mono hB)) (Nat.le_trans hB hb.size) hs hn
  have ef : (l.filter fun p => decide (p ∈ dedup o) == true) = l.filter fun p => decide (p ∈ o) := by
    apply List.filter_congr
    intro p _
    rw [decide_eq_decide.2 (mem_dedup o p)]
    cases decide (p ∈ o) <;> rfl
  rw [ef] at cp
  generalize (l.filter fun p => decide (p ∈ o)) = r at cp ⊢
  clear ef
  go_enter Try.func50, Try.ntmps50
  go_wp2_with fail
  refine cn.mono ?_
  rintro e w1 ⟨b, mg, rfl, hs, _, _, hb⟩
  have cp2 := cp b mg w1 hb hs
  have hsz := hb.size
  clear cp hs cn
  go_wp2_with fail
  refine cp2.mono ?_
  rintro e w2 ⟨A2, c2, rfl, ho, hb2⟩
  have HH := hide (And.intro (OwnE.mono ho hsz) (hb.trans (hb2.mono hsz)))
  clear ho hb2 hb cp2
  go_wp2
  go_ret
  exact ⟨A2, c2, rfl, HH.out.1, HH.out.2⟩
/-! ### the document's -/
end Go.Proofs.Ythloamhodapmpaa
