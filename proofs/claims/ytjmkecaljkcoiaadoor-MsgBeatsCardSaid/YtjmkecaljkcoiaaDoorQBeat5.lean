import Derived.Test.YtjmkecaljkcoiaaDoorQBeat3
import Derived.Test.YtjmkecaljkcoiaaDoorQMsg6
namespace Go.Proofs.YtjmkecaljkcoiaaDoor
open Go.RowKit Go.Maps
set_option linter.unusedVariables false
set_option linter.unusedSimpArgs false
def formB (b : Bt) : List UInt8 := shortL b.v ++ shortL b.a ++ shortL b.l ++ shortL b.s ++ (shortL b.q.length ++ pidsL b.q)
def numF (x : Bx) : Nat → List UInt8
  | 0 => []
  | 1 => [] ++ shortL x.v
  | 2 => [] ++ shortL x.v ++ shortL x.a
  | 3 => [] ++ shortL x.v ++ shortL x.a ++ shortL x.l
  | _ => [] ++ shortL x.v ++ shortL x.a ++ shortL x.l ++ shortL x.s
theorem BAt.keep {w w' : World} {b B : Nat} {x : Bx} (h : BAt w b x) (hl : b < B) (hb : Below B w w') : BAt w' b x := (hb.block b hl).trans h
set_option maxRecDepth 100000 in
theorem encbeat_no (x : Bx) (B : Nat) (w : World) (h : BxIn w B x) (hB : B ≤ w.heap.size) (hm : ¬ MayB x.m) :
    Calls Tryd.prog 21 #[.agg #[.int .u64 (x.v : Int), .int .u64 (x.a : Int), .int .u64 (x.l : Int), .int .u64 (x.s : Int), .slice x.A x.n x.c]] w fun e w' => e = .returned (.tuple #[.slice none 0 0, .int .i64 1]) ∧ Below w.heap.size w w' := by
  have hbz : Below w.heap.size w (w.alloc (.cells #[.int .u64 (x.v : Int), .int .u64 (x.a : Int), .int .u64 (x.l : Int), .int .u64 (x.s : Int), .slice x.A x.n x.c] 52)) := (Below.refl _ _).alloc (Nat.le_refl _) _
  have cm := maybeat_any x B (w.alloc (.cells #[.int .u64 (x.v : Int), .int .u64 (x.a : Int), .int .u64 (x.l : Int), .int .u64 (x.s : Int), .slice x.A x.n x.c] 52)) false (h.below (hbz.mono hB)) (Nat.le_trans hB hbz.size) ⟨fun e => absurd e (by decide), fun e => absurd e hm⟩
  clear h hm
  go_enter Tryd.func21, Tryd.ntmps21
  go_wp2_with fail
  refine cm.mono ?_
  rintro e w2 ⟨rfl, hb⟩
  have hb2 := hbz.trans (hb.mono hbz.size)
  clear cm hb hbz
  go_wp2
  go_ret2
  exact ⟨rfl, hb2⟩
set_option maxRecDepth 100000 in
set_option maxHeartbeats 2000000 in
theorem encbeat_yes (x : Bx) (B : Nat) (w : World) (h : BxIn w B x) (hB : B ≤ w.heap.size) (hm : MayB x.m) :
    Calls Tryd.prog 21 #[.agg #[.int .u64 (x.v : Int), .int .u64 (x.a : Int), .int .u64 (x.l : Int), .int .u64 (x.s : Int), .slice x.A x.n x.c]] w (EncP w (formB x.m)) := by
  have hbz : Below w.heap.size w (w.alloc (.cells #[.int .u64 (x.v : Int), .int .u64 (x.a : Int), .int .u64 (x.l : Int), .int .u64 (x.s : Int), .slice x.A x.n x.c] 52)) := (Below.refl _ _).alloc (Nat.le_refl _) _
  have cm := maybeat_any x B (w.alloc (.cells #[.int .u64 (x.v : Int), .int .u64 (x.a : Int), .int .u64 (x.l : Int), .int .u64 (x.s : Int), .slice x.A x.n x.c] 52)) true (h.below (hbz.mono hB)) (Nat.le_trans hB hbz.size) ⟨fun _ => hm, fun _ => rfl⟩
  have cn := numbers_any x
  have v0 := BAt.mk_ w x
  have hlen := h.es.len
  have hn24 : x.n ≤ 24 := by rw [← hlen]; exact hm.n
  have HX := hide h
  have l0 := (shortL_len x.v).2
  have l1 := (shortL_len x.a).2
  have l2 := (shortL_len x.l).2
  have l3 := (shortL_len x.s).2
  have l4 := (shortL_len x.n).2
  have l5 := pidsL_len x.q
  have hform : formB x.m = [] ++ shortL x.v ++ shortL x.a ++ shortL x.l ++ shortL x.s ++ (shortL x.n ++ pidsL x.q) := by
    unfold formB; rw [← hlen]; rfl
  have HFO := hide hform
  have k0 : ∀ w, (Instr.index 88 (.agg #[.int .u64 (x.v : Int), .int .u64 (x.a : Int), .int .u64 (x.l : Int), .int .u64 (x.s : Int)]) (.int .i64 0)).run Tryd.prog w = .ok (.int .u64 (x.v : Int)) w := fun w => by simp [Instr.index, go_sem, asIntOf, part]
  have k1 : ∀ w, (Instr.index 88 (.agg #[.int .u64 (x.v : Int), .int .u64 (x.a : Int), .int .u64 (x.l : Int), .int .u64 (x.s : Int)]) (.int .i64 1)).run Tryd.prog w = .ok (.int .u64 (x.a : Int)) w := fun w => by simp [Instr.index, go_sem, asIntOf, part]
  have k2 : ∀ w, (Instr.index 88 (.agg #[.int .u64 (x.v : Int), .int .u64 (x.a : Int), .int .u64 (x.l : Int), .int .u64 (x.s : Int)]) (.int .i64 2)).run Tryd.prog w = .ok (.int .u64 (x.l : Int)) w := fun w => by simp [Instr.index, go_sem, asIntOf, part]
  have k3 : ∀ w, (Instr.index 88 (.agg #[.int .u64 (x.v : Int), .int .u64 (x.a : Int), .int .u64 (x.l : Int), .int .u64 (x.s : Int)]) (.int .i64 3)).run Tryd.prog w = .ok (.int .u64 (x.s : Int)) w := fun w => by simp [Instr.index, go_sem, asIntOf, part]
  clear h hm hform hlen
  go_enter Tryd.func21, Tryd.ntmps21
  generalize hw1 : w.alloc (.cells #[.int .u64 (x.v : Int), .int .u64 (x.a : Int), .int .u64 (x.l : Int), .int .u64 (x.s : Int), .slice x.A x.n x.c] 52) = w1 at *
  obtain ⟨g0, g1, g2, g3, g4⟩ := v0.cells
  go_wp2_with fail
  refine cm.mono ?_
  rintro e w2 ⟨rfl, hb⟩
  have hb2 := hbz.trans (hb.mono hbz.size)
  have v2 := v0.later hb
  have b0 := v2
  have cx := HX.out.es.below (hb2.mono hB)
  clear cm v0 hb hbz g0 g1 g2 g3 g4
  obtain ⟨g0, g1, g2, g3, g4⟩ := v2.cells
  have hr2 := WrAt.new w2 w2.heap.size (Nat.le_refl _)
  have hb3 := hb2.alloc hb2.size (.cells #[.slice none 0 0] 66)
  have v3 := v2.alloc (.cells #[.slice none 0 0] 66)
  have lt3 : w.heap.size < w2.heap.size := v2.lt
  have hl3 : w2.heap.size ≤ (w2.alloc (.cells #[.slice none 0 0] 66)).heap.size := by simp
  obtain ⟨G, hG⟩ : ∃ G, G = w2.heap.size := ⟨_, rfl⟩
  go_wp2_with fail
  refine (cn _).mono ?_
  rintro e w4 ⟨rfl, hb4⟩
  have hr4 := hr2.later hb4
  have b4 := v3.later hb4
  have hb5 := hb3.trans (hb4.mono hb3.size)
  have hG4 : w2.heap.size ≤ w4.heap.size := Nat.le_trans hl3 hb4.size
  have cx4 := (HX.out.es.below (hb5.mono hB)).more (Nat.le_trans hB (Nat.le_of_lt lt3))
  have hx0 := HX.out.hv
  have hx1 := HX.out.ha
  have hx2 := HX.out.hl
  have hx3 := HX.out.hs
  have hGw : w.heap.size ≤ w2.heap.size := Nat.le_of_lt lt3
  clear cn cx hr2 v2 v3 b0 hb2 hb3 hb4 hl3 g0 g1 g2 g3 g4 hw1 hG
  generalize w2.heap.size = G at *
  have HB := hide (And.intro b4 cx4)
  clear b4 cx4
  go_wp2
  go_loopw [14] (fun i wr => ∃ (j : Nat) (mg : Option Nat), j ≤ 4 ∧ i = .int .i64 j ∧ WrAt wr G G mg (numF x j) ∧ Below G w4 wr) (fun i _ => 4 - (intOf i).toNat)
  case atStart => exact ⟨0, none, by omega, rfl, hr4, Below.refl _ _⟩
  case round =>
    obtain ⟨j, mg, hj, hi, hw, hb⟩ := hrel
    have hbase := Nat.le_trans hG4 hb.size
    clear hr4
    by_cases hlt : j < 4
    · rcases (by omega : j = 0 ∨ j = 1 ∨ j = 2 ∨ j = 3) with rfl | rfl | rfl | rfl
      · have hi2 : _ = Value.int .i64 (0 : Int) := hi
        subst hi2
        have hlenk : (numF x 0).length ≤ 40 := by
          show (([] : List UInt8)).length ≤ 40
          simp only [List.length_append, List.length_nil]; omega
        have cw := wnum_any G G mg (numF x 0) x.v _ hw hbase (by omega) hx0
        clear hi
        go_wp2_with fail
        refine cw.mono ?_
        rintro e w6 ⟨rfl, mg6, h6, t6, m6⟩
        have hb6 := hb.trans (hw.turned t6 hbase)
        clear cw hw hb
        go_wp2
        go_roundw
        case rel => exact ⟨1, mg6, by omega, by first | rfl | go_num, h6, hb6⟩
        case measure => first | decide | (simp [intOf]; done) | (simp [intOf]; omega)
      · have hi2 : _ = Value.int .i64 (1 : Int) := hi
        subst hi2
        have hlenk : (numF x 1).length ≤ 40 := by
          show ([] ++ shortL x.v).length ≤ 40
          simp only [List.length_append, List.length_nil]; omega
        have cw := wnum_any G G mg (numF x 1) x.a _ hw hbase (by omega) hx1
        clear hi
        go_wp2_with fail
        refine cw.mono ?_
        rintro e w6 ⟨rfl, mg6, h6, t6, m6⟩
        have hb6 := hb.trans (hw.turned t6 hbase)
        clear cw hw hb
        go_wp2
        go_roundw
        case rel => exact ⟨2, mg6, by omega, by first | rfl | go_num, h6, hb6⟩
        case measure => first | decide | (simp [intOf]; done) | (simp [intOf]; omega)
      · have hi2 : _ = Value.int .i64 (2 : Int) := hi
        subst hi2
        have hlenk : (numF x 2).length ≤ 40 := by
          show ([] ++ shortL x.v ++ shortL x.a).length ≤ 40
          simp only [List.length_append, List.length_nil]; omega
        have cw := wnum_any G G mg (numF x 2) x.l _ hw hbase (by omega) hx2
        clear hi
        go_wp2_with fail
        refine cw.mono ?_
        rintro e w6 ⟨rfl, mg6, h6, t6, m6⟩
        have hb6 := hb.trans (hw.turned t6 hbase)
        clear cw hw hb
        go_wp2
        go_roundw
        case rel => exact ⟨3, mg6, by omega, by first | rfl | go_num, h6, hb6⟩
        case measure => first | decide | (simp [intOf]; done) | (simp [intOf]; omega)
      · have hi2 : _ = Value.int .i64 (3 : Int) := hi
        subst hi2
        have hlenk : (numF x 3).length ≤ 40 := by
          show ([] ++ shortL x.v ++ shortL x.a ++ shortL x.l).length ≤ 40
          simp only [List.length_append, List.length_nil]; omega
        have cw := wnum_any G G mg (numF x 3) x.s _ hw hbase (by omega) hx3
        clear hi
        go_wp2_with fail
        refine cw.mono ?_
        rintro e w6 ⟨rfl, mg6, h6, t6, m6⟩
        have hb6 := hb.trans (hw.turned t6 hbase)
        clear cw hw hb
        go_wp2
        go_roundw
        case rel => exact ⟨4, mg6, by omega, by first | rfl | go_num, h6, hb6⟩
        case measure => first | decide | (simp [intOf]; done) | (simp [intOf]; omega)
    · obtain rfl : j = 4 := by omega
      have hi2 : _ = Value.int .i64 (4 : Int) := hi
      subst hi2
      clear hi hj hlt
      have b6 := HB.out.1.keep lt3 hb
      have g4 := b6.cells.2.2.2.2
      have hlen4 : (numF x 4).length ≤ 40 := by
        show ([] ++ shortL x.v ++ shortL x.a ++ shortL x.l ++ shortL x.s).length ≤ 40
        simp only [List.length_append, List.length_nil]; omega
      have cp := wpids_any G G mg (numF x 4) x.A x.n x.c x.q _ hw hbase (by omega) (HB.out.2.below hb) (by omega)
      have hql := HX.out.es.len
      go_wp2_with fail
      refine cp.mono ?_
      rintro e w6 ⟨rfl, mg6, h6, t6, m6⟩
      have hb6 := hb.trans (hw.turned t6 hbase)
      have hb7 := hb5.trans (hb6.mono hGw)
      have hfo : numF x 4 ++ (shortL x.n ++ pidsL x.q) = formB x.m := by rw [HFO.out]; rfl
      rw [hfo] at h6
      have hle : (formB x.m).length ≤ 100000 := by
        rw [← hfo, List.length_append, List.length_append]; omega
      clear cp g4 b6
      go_wp2_with fail
      refine (wdone_any G _ mg6 (formB x.m) w6 h6 (by omega)).mono ?_
      rintro e w7 ⟨A7, c7, rfl, hO7, hb8⟩
      have HP := hide (show EncP w (formB x.m) (.returned (.tuple #[.slice A7 (formB x.m).length c7, .int .i64 0])) w7 from ⟨A7, c7, rfl, hO7.mono hb7.size, hb7.trans (hb8.mono hb7.size)⟩)
      clear hO7 hb8 h6 hw
      go_wp2
      go_ret2
      exact HP.out
end Go.Proofs.YtjmkecaljkcoiaaDoor
