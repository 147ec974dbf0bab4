/-
  The document's Without.
-/
import Derived.Test.YtfjefhmpfnnmeaaSet5
namespace Go.Proofs.Ytfjefhmpfnnmeaa
open Go.RowKit Go.Maps
set_option linter.unusedVariables false
set_option linter.unusedSimpArgs false

set_option maxRecDepth 100000 in
theorem rwithout_any (A : Option Addr) (n c : Nat) (l : List Pr) (B : Nat) (p : Pr) (w : World) (hA : Es prC w B A n l) (hB : B ≤ w.heap.size) (hn : n ≤ 1000000) :
    Calls Try.prog 13 #[.slice A n c, .agg #[.int .u16 (p.i : Int), .int .u32 (p.k : Int)]] w (MakesP w (l.filter fun x => decide (x ≠ p))) := by
  obtain ⟨f, hf⟩ : ∃ f : Pr → Bool, f = fun x => decide (x ≠ p) := ⟨_, rfl⟩
  rw [← hf]
  have hff : ∀ x, f x = decide (x ≠ p) := fun p => by rw [hf]
  have HF := hide hff
  clear hf hff
  have hlen := hA.len
  have HL := hide hlen
  clear hlen
  obtain ⟨i0, hi, hz0, hz1, hz2⟩ := info_parts info_pid
  have h0 := FilTo.start f l
  have hbz : Below w.heap.size w (w.alloc (.cells #[.int .u16 (p.i : Int), .int .u32 (p.k : Int)] 32)) := (Below.refl _ _).alloc (Nat.le_refl _) _
  have d0 : (w.alloc (.cells #[.int .u16 (p.i : Int), .int .u32 (p.k : Int)] 32)).cell? ⟨w.heap.size, 0, none⟩ = some (.int .u16 (p.i : Int)) := by go_simp
  have d1 : (w.alloc (.cells #[.int .u16 (p.i : Int), .int .u32 (p.k : Int)] 32)).cell? ⟨w.heap.size, 1, none⟩ = some (.int .u32 (p.k : Int)) := by go_simp
  go_enter Try.func13, Try.ntmps13
  go_wp2
  have hz : w.heap.size + 1 ≤ (w.alloc (.cells #[.int .u16 (p.i : Int), .int .u32 (p.k : Int)] 32)).heap.size := by simp
  generalize (w.alloc (.cells #[.int .u16 (p.i : Int), .int .u32 (p.k : Int)] 32)) = w1 at *
  have hA1 := hA.below (hbz.mono hB)
  have HZ := hide (And.intro hbz hz)
  clear hA hbz hz
  go_loopw [5, 6] (fun v i wr => ∃ (k : Nat) (A' : Option Addr) (q c' : Nat) (acc : List Pr), k ≤ n ∧ i = .int .i64 k ∧ v = .slice A' q c' ∧ q ≤ k ∧ FilTo f l k acc ∧ OwnP wr w1.heap.size (.slice A' q c') q acc ∧ Below w1.heap.size w1 wr) (fun _ i _ => n - (intOf i).toNat)
  case atStart => exact ⟨0, none, 0, 0, [], Nat.zero_le _, rfl, rfl, Nat.le_refl _, h0, OwnE.nil_ _ _, Below.refl _ _⟩
  case round =>
    obtain ⟨k, A', q, c', acc, hk, rfl, rfl, hqk, hto, hown, hb⟩ := hrel
    have hsz := hb.size
    by_cases hlt : k < n
    · have hAr := hA1.below (hb.mono (Nat.le_trans hB (by have := HZ.out.2; omega)))
      obtain ⟨ad, hl, rfl, hbl, hc⟩ := hAr.at_ prOk hlt
      have hyes := hto.yes hl
      have hno := hto.no hl
      obtain ⟨x, hx⟩ : ∃ x, x = l[k] := ⟨_, rfl⟩
      rw [← hx] at hc hyes hno
      obtain ⟨c0, c1⟩ := pr_at hc
      clear hx hc
      have e0 := cell_later d0 hb
      have e1 := cell_later d1 hb
      have hfp := HF.out x
      clear hto hAr
      have z1 : (0 : Int) ≤ (k : Int) := by omega
      have z2 : (k : Int) < (n : Int) := by omega
      by_cases hqi : x.i = p.i
      · by_cases hqk2 : x.k = p.k
        · have hxp : x = p := Pr.ext hqi hqk2
          have hst := hno (by rw [hfp, hxp]; simp)
          rw [hqi] at c0
          rw [hqk2] at c1
          clear hyes hno hfp hqi hqk2 hxp
          go_wp2_with fail
          go_quiet (fail)
          go_wp2
          go_roundw
          case rel => exact ⟨k + 1, A', q, c', acc, by omega, by go_num, rfl, by omega, hst, hown, below_drewN hb _⟩
          case measure => simp [intOf]; omega
        · have hst := hyes (by rw [hfp]; exact decide_eq_true (fun e => hqk2 (by rw [e])))
          have q3 : ¬ ((x.k : Int) = (p.k : Int)) := by omega
          have CX := hide c0
          rw [hqi] at c0
          clear hyes hno hfp hqi hqk2
          go_wp2_with fail
          go_quiet (fail)
          have own9 : OwnP (wr.drewN nq) w1.heap.size (.slice A' q c') q acc := hown
          have hb9 : Below w1.heap.size w1 (wr.drewN nq) := below_drewN hb nq
          have f0 : (wr.drewN nq).cell? (ad.add (k * 2)) = some (.int .u16 (x.i : Int)) := CX.out
          have f1 : (wr.drewN nq).cell? ⟨(ad.add (k * 2)).block, (ad.add (k * 2)).off + 1, none⟩ = some (.int .u32 (x.k : Int)) := c1
          generalize wr.drewN nq = w9 at own9 hb9 f0 f1 ⊢
          have HB := hide hb9
          have hz3 := hb9.size
          clear hb9 hown hb c0 c1 e0 e1 hsz CX
          go_wp2_with (at_builtin; refine wp_append_e _ rfl (.tmp 19) (.tmp 24) 22 rfl 32 i0 _ 8 Try.underlying22 hi hz0 hz1 hz2 rfl prOk w1.heap.size q _ acc rfl (own9.alloc _) (w9.heap.size + 1) _ 1 1 [x] rfl (es_lit w9 x _) (by unfold maxLen; omega) (by omega) w1.heap.size w1 (HB.out.alloc HB.out.size _) (Nat.le_refl _) (by simp; omega) ?_; intro A3 c3 w2 r1 r2 r3 r4; refine Hid.out ?_)
          refine Lib.hid ?_
          clear r3 r4 own9 f0 f1
          go_wp2_with fail
          go_roundw
          case rel => exact ⟨k + 1, A3, q + 1, c3, acc ++ [x], by omega, by go_num, rfl, by omega, hst, r1, r2⟩
          case measure => simp [intOf]; omega
      · have hst := hyes (by rw [hfp]; exact decide_eq_true (fun e => hqi (by rw [e])))
        have q3 : ¬ ((x.i : Int) = (p.i : Int)) := by omega
        have CX := hide c0
        clear hyes hno hfp hqi
        go_wp2_with fail
        go_quiet (fail)
        have own9 : OwnP (wr.drewN nq) w1.heap.size (.slice A' q c') q acc := hown
        have hb9 : Below w1.heap.size w1 (wr.drewN nq) := below_drewN hb nq
        have f0 : (wr.drewN nq).cell? (ad.add (k * 2)) = some (.int .u16 (x.i : Int)) := CX.out
        have f1 : (wr.drewN nq).cell? ⟨(ad.add (k * 2)).block, (ad.add (k * 2)).off + 1, none⟩ = some (.int .u32 (x.k : Int)) := c1
        generalize wr.drewN nq = w9 at own9 hb9 f0 f1 ⊢
        have HB := hide hb9
        have hz3 := hb9.size
        clear hb9 hown hb c0 c1 e0 e1 hsz CX
        go_wp2_with (at_builtin; refine wp_append_e _ rfl (.tmp 19) (.tmp 24) 22 rfl 32 i0 _ 8 Try.underlying22 hi hz0 hz1 hz2 rfl prOk w1.heap.size q _ acc rfl (own9.alloc _) (w9.heap.size + 1) _ 1 1 [x] rfl (es_lit w9 x _) (by unfold maxLen; omega) (by omega) w1.heap.size w1 (HB.out.alloc HB.out.size _) (Nat.le_refl _) (by simp; omega) ?_; intro A3 c3 w2 r1 r2 r3 r4; refine Hid.out ?_)
        refine Lib.hid ?_
        clear r3 r4 own9 f0 f1
        go_wp2_with fail
        go_roundw
        case rel => exact ⟨k + 1, A3, q + 1, c3, acc ++ [x], by omega, by go_num, rfl, by omega, hst, r1, r2⟩
        case measure => simp [intOf]; omega
    · have hd := hto.done (by rw [HL.out]; omega)
      have hlen2 := OwnE.len prOk hown
      have HH := hide (And.intro hd (And.intro hown (And.intro hb hlen2)))
      clear hd hto hown hb hlen2
      go_wp2
      go_ret
      obtain ⟨hd, ho, hb2, hlen2⟩ := HH.out
      rw [← hd]
      subst hlen2
      exact ⟨A', c', rfl, OwnE.mono ho HZ.out.1.size, HZ.out.1.trans (hb2.mono HZ.out.1.size)⟩
end Go.Proofs.Ytfjefhmpfnnmeaa
