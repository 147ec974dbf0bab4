import Derived.Test.YtjmkecaljkcoiaaDoorQBeat8
namespace Go.Proofs.YtjmkecaljkcoiaaDoor
open Go.RowKit Go.Maps
set_option linter.unusedVariables false
set_option linter.unusedSimpArgs false
theorem res_cell_slot {P : Program} {fn : Func} {p q : Tmp} {ty : TypeId} (h : fn.results = #[.cell p ty, .tmp q]) (tmps : Array Value) (w : World) (g : Nat) (t : TypeId) (cs : Array Value) (fr : Nat × Nat) (d : TypeDesc) (u : Value)
    (hp : tmps.getD p undef = .pointer (some ⟨g, 0, none⟩)) (hq : tmps.getD q undef = u) (hg : w.heap[g]? = some (.cells cs t fr))
    (hu : P.underlying ty = some d) (hd : (match d with | .struct _ | .array _ _ => true | _ => false) = true) (hi : (P.info? ty).map (·.size) = some cs.size) :
    (results fn tmps).run P w = .ok (.tuple #[.agg cs, u]) w := by
  have hp' : tmps[p]?.getD undef = .pointer (some ⟨g, 0, none⟩) := by simpa using hp
  have hq' : tmps[q]?.getD undef = u := by simpa using hq
  simp [results, h, hp', hq', asAddr, run_loadVar_row w g t ty cs fr d hg hu hd hi]
section
variable {w w' : World} {b g : Nat} {x : Bx}
theorem bheap_set {cs : Array Value} {t : TypeId} (h : w.heap[b]? = some (.cells cs t)) (x : Nat) (v : Value) : (w.setCell ⟨b, x, none⟩ v).heap[b]? = some (.cells (cs.setIfInBounds x v) t) := by
  have e := heap_setCell_same w b x cs _ v h
  rw [e]
theorem BAt.turn (h : BAt w g x) (ht : Turn w w' b none) (hg : g ≠ b) : BAt w' g x := (ht.block g h.lt hg (by simp)).trans h
theorem BAt.frozen (h : BAt w b x) (y : Nat) : w.frozen? ⟨b, y, none⟩ = false := frozen_of_row w b y _ _ h
def ArA (w : World) (g a0 a1 a2 a3 : Nat) : Prop := w.heap[g]? = some (.cells #[.int .u64 (a0 : Int), .int .u64 (a1 : Int), .int .u64 (a2 : Int), .int .u64 (a3 : Int)] 88)
variable {a0 a1 a2 a3 : Nat}
theorem ArA.lt (h : ArA w g a0 a1 a2 a3) : g < w.heap.size := (Array.getElem?_eq_some_iff.1 h).1
theorem ArA.cells (h : ArA w g a0 a1 a2 a3) : w.cell? ⟨g, 0, none⟩ = some (.int .u64 (a0 : Int)) ∧ w.cell? ⟨g, 1, none⟩ = some (.int .u64 (a1 : Int)) ∧ w.cell? ⟨g, 2, none⟩ = some (.int .u64 (a2 : Int)) ∧ w.cell? ⟨g, 3, none⟩ = some (.int .u64 (a3 : Int)) :=
  ⟨cell_of_row w g 0 _ _ (0, 0) h, cell_of_row w g 1 _ _ (0, 0) h, cell_of_row w g 2 _ _ (0, 0) h, cell_of_row w g 3 _ _ (0, 0) h⟩
theorem ArA.frozen (h : ArA w g a0 a1 a2 a3) (y : Nat) : w.frozen? ⟨g, y, none⟩ = false := frozen_of_row w g y _ _ h
theorem ArA.turn (h : ArA w g a0 a1 a2 a3) (ht : Turn w w' b none) (hg : g ≠ b) : ArA w' g a0 a1 a2 a3 := (ht.block g h.lt hg (by simp)).trans h
theorem ArA.set0 (h : ArA w g a0 a1 a2 a3) (v : Nat) : ArA (w.setCell ⟨g, 0, none⟩ (.int .u64 (v : Int))) g v a1 a2 a3 := bheap_set h 0 _
theorem ArA.set1 (h : ArA w g a0 a1 a2 a3) (v : Nat) : ArA (w.setCell ⟨g, 1, none⟩ (.int .u64 (v : Int))) g a0 v a2 a3 := bheap_set h 1 _
theorem ArA.set2 (h : ArA w g a0 a1 a2 a3) (v : Nat) : ArA (w.setCell ⟨g, 2, none⟩ (.int .u64 (v : Int))) g a0 a1 v a3 := bheap_set h 2 _
theorem ArA.set3 (h : ArA w g a0 a1 a2 a3) (v : Nat) : ArA (w.setCell ⟨g, 3, none⟩ (.int .u64 (v : Int))) g a0 a1 a2 v := bheap_set h 3 _
end
structure NumsTo (s : RS) (j a0 a1 a2 a3 : Nat) : Prop where
  h0 : 0 < j → a0 = nmBt s 0
  h1 : 1 < j → a1 = nmBt s 1
  h2 : 2 < j → a2 = nmBt s 2
  h3 : 3 < j → a3 = nmBt s 3
theorem NumsTo.start (s : RS) : NumsTo s 0 0 0 0 0 := ⟨fun h => absurd h (by decide), fun h => absurd h (by decide), fun h => absurd h (by decide), fun h => absurd h (by decide)⟩
def DecBP (w : World) (r : Bt × Nat) (e : Ending) (w' : World) : Prop := ∃ x : Bx, e = .returned (.tuple #[.agg #[.int .u64 (x.v : Int), .int .u64 (x.a : Int), .int .u64 (x.l : Int), .int .u64 (x.s : Int), .slice x.A x.n x.c], .int .i64 ((r.2 : Nat) : Int)]) ∧ x.m = r.1 ∧ BxIn w' w'.heap.size x ∧ x.n ≤ 24 ∧ Below w.heap.size w w'
theorem nmBt_lt (s : RS) (j : Nat) : nmBt s j < 18446744073709551616 := by have := numS_le 4611686018427387904 (stBt s j); unfold nmBt; omega
theorem BxIn.zero (w : World) (B : Nat) : BxIn w B ⟨0, 0, 0, 0, none, 0, 0, []⟩ := ⟨by decide, by decide, by decide, by decide, Es.none_, Nat.le_refl _, Nat.zero_le _⟩
def PickQ3 (R : Nat → Option Addr → Nat → World → Prop) (F : Nat → Option Addr → Nat → Act) : Exit → Act → World → Prop
  | .normal, a', w' => ∃ H A c, R H A c w' ∧ a' = F H A c
  | _, _, _ => False
theorem wp_region_pick3 {P : Program} {id : Nat} {ops : Array Oper} {b : Bool} {Q : Exit → Act → World → Prop} {a : Act} {w : World} (R : Nat → Option Addr → Nat → World → Prop)
    (h : ∃ F : Nat → Option Addr → Nat → Act, (Code.region id ops b).wp P (PickQ3 R F) a w ∧ ∀ H A c w', R H A c w' → Q .normal (F H A c) w') : (Code.region id ops b).wp P Q a w := by
  obtain ⟨F, h1, h2⟩ := h
  refine Code.wp_mono (fun e a' w' hr => ?_) h1
  cases e <;> first | exact (hr : False).elim | (obtain ⟨H, A, c, hR, rfl⟩ := hr; exact h2 H A c w' hR)
structure DbS (w : World) (b a0 a1 a2 a3 : Nat) (r : List Pr × RS) (H : Nat) (A : Option Addr) (c : Nat) (w' : World) : Prop where
  bt : BAt w' H ⟨a0, a1, a2, a3, A, r.1.length, c, r.1⟩
  ow : OwnP w' (w.heap.size + 1) (.slice A r.1.length c) r.1.length r.1
  rd : RdAt w' b r.2.l r.2.t
  zz : BAt w' w.heap.size ⟨0, 0, 0, 0, none, 0, 0, []⟩
  bl : Below w.heap.size w w'
  hb : b < H
theorem BAt.zero (w : World) : BAt (w.alloc (.cells #[.int .u64 0, .int .u64 0, .int .u64 0, .int .u64 0, .slice none 0 0] 52)) w.heap.size ⟨0, 0, 0, 0, none, 0, 0, []⟩ := heap_alloc_new w _
theorem BAt.put {w : World} {b : Nat} {x : Bx} (h : BAt w b x) (v a l s : Nat) (A : Option Addr) (n c : Nat) (q : List Pr) :
    BAt (((((w.setCell ⟨b, 0, none⟩ (.int .u64 (v : Int))).setCell ⟨b, 1, none⟩ (.int .u64 (a : Int))).setCell ⟨b, 2, none⟩ (.int .u64 (l : Int))).setCell ⟨b, 3, none⟩ (.int .u64 (s : Int))).setCell ⟨b, 4, none⟩ (.slice A n c)) b ⟨v, a, l, s, A, n, c, q⟩ :=
  bheap_set (bheap_set (bheap_set (bheap_set (bheap_set h 0 _) 1 _) 2 _) 3 _) 4 _
theorem below_beat {B : Nat} {w0 w : World} {b : Nat} (h : Below B w0 w) (hb : B ≤ b) (u0 u1 u2 u3 u4 : Value) :
    Below B w0 (((((w.setCell ⟨b, 0, none⟩ u0).setCell ⟨b, 1, none⟩ u1).setCell ⟨b, 2, none⟩ u2).setCell ⟨b, 3, none⟩ u3).setCell ⟨b, 4, none⟩ u4) :=
  ((((h.setCell (p := ⟨b, 0, none⟩) hb _).setCell (p := ⟨b, 1, none⟩) hb _).setCell (p := ⟨b, 2, none⟩) hb _).setCell (p := ⟨b, 3, none⟩) hb _).setCell (p := ⟨b, 4, none⟩) hb _
theorem DbS.later_ {w w8 W' : World} {b a0 a1 a2 a3 H c : Nat} {r : List Pr × RS} {A : Option Addr} (zz : BAt w8 w.heap.size ⟨0, 0, 0, 0, none, 0, 0, []⟩) (rd : RdAt w8 b r.2.l r.2.t) (ow : OwnP w8 (w.heap.size + 1) (.slice A r.1.length c) r.1.length r.1)
    (bl : Below w.heap.size w w8) (hf : Below w8.heap.size w8 W') (hbt : BAt W' H ⟨a0, a1, a2, a3, A, r.1.length, c, r.1⟩) (hb : b < H) : DbS w b a0 a1 a2 a3 r H A c W' :=
  ⟨hbt, OwnE.later ow hf, rd.later hf, zz.later hf, bl.trans (hf.mono bl.size), hb⟩
theorem DbS.store_ {w w9 : World} {b a0 a1 a2 a3 H c : Nat} {r : List Pr × RS} {A : Option Addr} (zz : BAt w9 w.heap.size ⟨0, 0, 0, 0, none, 0, 0, []⟩) (rd : RdAt w9 b r.2.l r.2.t) (ow : OwnP w9 (H + 1) (.slice A r.1.length c) r.1.length r.1)
    (bl : Below w.heap.size w w9) (hz : BAt w9 H ⟨0, 0, 0, 0, none, 0, 0, []⟩) (hb : b < H) (hw : w.heap.size < H) :
    DbS w b a0 a1 a2 a3 r H A c (((((w9.setCell ⟨H, 0, none⟩ (.int .u64 (a0 : Int))).setCell ⟨H, 1, none⟩ (.int .u64 (a1 : Int))).setCell ⟨H, 2, none⟩ (.int .u64 (a2 : Int))).setCell ⟨H, 3, none⟩ (.int .u64 (a3 : Int))).setCell ⟨H, 4, none⟩ (.slice A r.1.length c)) :=
  ⟨hz.put a0 a1 a2 a3 A _ c r.1, (OwnE.setLow (OwnE.setLow (OwnE.setLow (OwnE.setLow (OwnE.setLow ow (p := ⟨H, 0, none⟩) (Nat.lt_succ_self _) _) (p := ⟨H, 1, none⟩) (Nat.lt_succ_self _) _) (p := ⟨H, 2, none⟩) (Nat.lt_succ_self _) _) (p := ⟨H, 3, none⟩) (Nat.lt_succ_self _) _) (p := ⟨H, 4, none⟩) (Nat.lt_succ_self _) _).mono (by omega),
   ((((rd.other (p := ⟨H, 0, none⟩) hb _).other (p := ⟨H, 1, none⟩) hb _).other (p := ⟨H, 2, none⟩) hb _).other (p := ⟨H, 3, none⟩) hb _).other (p := ⟨H, 4, none⟩) hb _, zz.keep hw (below_beat (Below.refl H w9) (Nat.le_refl _) _ _ _ _ _), below_beat bl (Nat.le_of_lt hw) _ _ _ _ _, hb⟩
set_option maxRecDepth 100000 in
set_option maxHeartbeats 1000000 in
theorem decbeat_any (A : Option Addr) (n c : Nat) (l : List UInt8) (B : Nat) (w : World) (hA : Bs w B A n l) (hB : B ≤ w.heap.size) (hn : n ≤ 9000000) :
    Calls Tryd.prog 18 #[.slice A n c] w (DecBP w (decBt l)) := by
  have hbz : Below w.heap.size w (w.alloc (.cells #[.int .u64 0, .int .u64 0, .int .u64 0, .int .u64 0, .slice none 0 0] 52)) := (Below.refl _ _).alloc (Nat.le_refl _) _
  have z0 : BAt (w.alloc (.cells #[.int .u64 0, .int .u64 0, .int .u64 0, .int .u64 0, .slice none 0 0] 52)) w.heap.size ⟨0, 0, 0, 0, none, 0, 0, []⟩ := heap_alloc_new w _
  have hs1 : (w.alloc (.cells #[.int .u64 0, .int .u64 0, .int .u64 0, .int .u64 0, .slice none 0 0] 52)).heap.size = w.heap.size + 1 := by simp
  have cr := read_any A n c l B (w.alloc (.cells #[.int .u64 0, .int .u64 0, .int .u64 0, .int .u64 0, .slice none 0 0] 52)) (hA.below (hbz.mono hB)) (Nat.le_trans hB hbz.size) (by omega)
  unfold ReadP at cr
  obtain ⟨s, hs⟩ : ∃ s, s = (⟨l, 0⟩ : RS) := ⟨_, rfl⟩
  have hd1 : endF (getBt s).2.l (getBt s).2.t ≠ 0 → decBt l = (zeroBt, endF (getBt s).2.l (getBt s).2.t) := by rw [hs]; exact decBt_err
  have hd2 : endF (getBt s).2.l (getBt s).2.t = 0 → MayB (getBt s).1 → decBt l = ((getBt s).1, 0) := by rw [hs]; exact decBt_yes
  have hd3 : endF (getBt s).2.l (getBt s).2.t = 0 → ¬ MayB (getBt s).1 → decBt l = (zeroBt, 5) := by rw [hs]; exact decBt_no
  have HX := hide (And.intro hd1 (And.intro hd2 hd3))
  have HS := hide hs
  clear hA hd1 hd2 hd3 hs
  generalize hw1 : w.alloc (.cells #[.int .u64 0, .int .u64 0, .int .u64 0, .int .u64 0, .slice none 0 0] 52) = w1 at *
  go_enter Tryd.func18, Tryd.ntmps18
  go_wp2_with fail
  refine cr.mono ?_
  rintro e w2 ⟨b, rfl, hbl, hr, hb⟩
  have hb2 := hbz.trans (hb.mono hbz.size)
  have z2 := z0.later hb
  have hrl := hr.lt
  have hbw : w.heap.size < b := by omega
  have hr' : RdAt w2 b (stBt s 0).l (stBt s 0).t := by rw [HS.out]; exact hr
  have hr2 := hr'.alloc (.cells #[.int .u64 0, .int .u64 0, .int .u64 0, .int .u64 0] 88)
  have ar2 : ArA (w2.alloc (.cells #[.int .u64 0, .int .u64 0, .int .u64 0, .int .u64 0] 88)) w2.heap.size 0 0 0 0 := heap_alloc_new w2 _
  have z3 := z2.alloc (.cells #[.int .u64 0, .int .u64 0, .int .u64 0, .int .u64 0] 88)
  have hb3 := hb2.alloc hb2.size (.cells #[.int .u64 0, .int .u64 0, .int .u64 0, .int .u64 0] 88)
  obtain ⟨G, hG⟩ : ∃ G, G = w2.heap.size := ⟨_, rfl⟩
  have hbG : b < G := by omega
  have hlG : G < (w2.alloc (.cells #[.int .u64 0, .int .u64 0, .int .u64 0, .int .u64 0] 88)).heap.size := by rw [hG]; simp
  have hn0 := NumsTo.start s
  clear cr hw1 hb z0 hr hr' z2 hb2 hs1 hbz
  go_wp2
  generalize w2.alloc (.cells #[.int .u64 0, .int .u64 0, .int .u64 0, .int .u64 0] 88) = w3 at *
  rw [← hG] at ar2 ⊢
  clear hG hrl
  have HZ := hide (And.intro z3 hb3)
  have hwl := hb3.size
  clear z3 hb3
  go_loopw [11] (fun i wr => ∃ j a0 a1 a2 a3 : Nat, j ≤ 4 ∧ i = .int .i64 j ∧ RdAt wr b (stBt s j).l (stBt s j).t ∧ ArA wr G a0 a1 a2 a3 ∧ NumsTo s j a0 a1 a2 a3 ∧ Below b w3 wr) (fun i _ => 4 - (intOf i).toNat)
  case atStart => exact ⟨0, 0, 0, 0, 0, by omega, rfl, hr2, ar2, hn0, Below.refl _ _⟩
  case round =>
    obtain ⟨j, a0, a1, a2, a3, hj, hi, hr, ar, hN, hb⟩ := hrel
    clear hr2 ar2 hn0
    have hbs := hb.size
    by_cases hlt : j < 4
    · rcases (by omega : j = 0 ∨ j = 1 ∨ j = 2 ∨ j = 3) with rfl | rfl | rfl | rfl
      · have hi2 : _ = Value.int .i64 (0 : Int) := hi
        subst hi2
        have cn := rdnum_tot b 4611686018427387904 (stBt s 0) _ hr (by decide)
        obtain ⟨r, hr0⟩ : ∃ r, r = numS 4611686018427387904 (stBt s 0) := ⟨_, rfl⟩
        have hrb : r.1 < 18446744073709551616 := by rw [hr0]; have := numS_le 4611686018427387904 (stBt s 0); omega
        rw [← hr0] at cn
        have HR := hide hr0
        have HN := hide hN
        have hgl := ar.lt
        have hbl2 := hr.lt
        clear hi hr0 hN hr
        go_wp2_with fail
        refine cn.mono ?_
        rintro e w6 ⟨rfl, h6, t6⟩
        have ar6 := ar.turn t6 (by omega)
        have hb6 := hb.trans (t6.below (Nat.le_of_lt hbl2) (Nat.le_refl _) (fun g hg => by cases hg))
        have hs6 := t6.size
        obtain ⟨g0, g1, g2, g3⟩ := ar6.cells
        have fz := ar6.frozen
        have hlt6 := ar6.lt
        have hok := (And.intro (h6.other (p := ⟨G, 0, none⟩) hbG (.int .u64 (r.1 : Int))) (And.intro (ar6.set0 r.1) (hb6.setCell (p := ⟨G, 0, none⟩) (Nat.le_of_lt hbG) (.int .u64 (r.1 : Int)))))
        have HOK := hide hok
        clear cn ar hb hok h6 ar6 t6 hb6
        go_wp2
        go_roundw
        case rel => exact ⟨1, r.1, a1, a2, a3, by omega, by first | rfl | go_num, by have := HOK.out.1; rw [HR.out] at this ⊢; exact this, by have := HOK.out.2.1; exact this, ⟨fun _ => by rw [HR.out]; rfl, fun h => absurd h (by decide), fun h => absurd h (by decide), fun h => absurd h (by decide)⟩, HOK.out.2.2⟩
        case measure => first | decide | (simp [intOf]; done) | (simp [intOf]; omega)
      · have hi2 : _ = Value.int .i64 (1 : Int) := hi
        subst hi2
        have cn := rdnum_tot b 4611686018427387904 (stBt s 1) _ hr (by decide)
        obtain ⟨r, hr0⟩ : ∃ r, r = numS 4611686018427387904 (stBt s 1) := ⟨_, rfl⟩
        have hrb : r.1 < 18446744073709551616 := by rw [hr0]; have := numS_le 4611686018427387904 (stBt s 1); omega
        rw [← hr0] at cn
        have HR := hide hr0
        have HN := hide hN
        have hgl := ar.lt
        have hbl2 := hr.lt
        clear hi hr0 hN hr
        go_wp2_with fail
        refine cn.mono ?_
        rintro e w6 ⟨rfl, h6, t6⟩
        have ar6 := ar.turn t6 (by omega)
        have hb6 := hb.trans (t6.below (Nat.le_of_lt hbl2) (Nat.le_refl _) (fun g hg => by cases hg))
        have hs6 := t6.size
        obtain ⟨g0, g1, g2, g3⟩ := ar6.cells
        have fz := ar6.frozen
        have hlt6 := ar6.lt
        have hok := (And.intro (h6.other (p := ⟨G, 1, none⟩) hbG (.int .u64 (r.1 : Int))) (And.intro (ar6.set1 r.1) (hb6.setCell (p := ⟨G, 1, none⟩) (Nat.le_of_lt hbG) (.int .u64 (r.1 : Int)))))
        have HOK := hide hok
        clear cn ar hb hok h6 ar6 t6 hb6
        go_wp2
        go_roundw
        case rel => exact ⟨2, a0, r.1, a2, a3, by omega, by first | rfl | go_num, by have := HOK.out.1; rw [HR.out] at this ⊢; exact this, by have := HOK.out.2.1; exact this, ⟨fun _ => HN.out.h0 (by decide), fun _ => by rw [HR.out]; rfl, fun h => absurd h (by decide), fun h => absurd h (by decide)⟩, HOK.out.2.2⟩
        case measure => first | decide | (simp [intOf]; done) | (simp [intOf]; omega)
      · have hi2 : _ = Value.int .i64 (2 : Int) := hi
        subst hi2
        have cn := rdnum_tot b 4611686018427387904 (stBt s 2) _ hr (by decide)
        obtain ⟨r, hr0⟩ : ∃ r, r = numS 4611686018427387904 (stBt s 2) := ⟨_, rfl⟩
        have hrb : r.1 < 18446744073709551616 := by rw [hr0]; have := numS_le 4611686018427387904 (stBt s 2); omega
        rw [← hr0] at cn
        have HR := hide hr0
        have HN := hide hN
        have hgl := ar.lt
        have hbl2 := hr.lt
        clear hi hr0 hN hr
        go_wp2_with fail
        refine cn.mono ?_
        rintro e w6 ⟨rfl, h6, t6⟩
        have ar6 := ar.turn t6 (by omega)
        have hb6 := hb.trans (t6.below (Nat.le_of_lt hbl2) (Nat.le_refl _) (fun g hg => by cases hg))
        have hs6 := t6.size
        obtain ⟨g0, g1, g2, g3⟩ := ar6.cells
        have fz := ar6.frozen
        have hlt6 := ar6.lt
        have hok := (And.intro (h6.other (p := ⟨G, 2, none⟩) hbG (.int .u64 (r.1 : Int))) (And.intro (ar6.set2 r.1) (hb6.setCell (p := ⟨G, 2, none⟩) (Nat.le_of_lt hbG) (.int .u64 (r.1 : Int)))))
        have HOK := hide hok
        clear cn ar hb hok h6 ar6 t6 hb6
        go_wp2
        go_roundw
        case rel => exact ⟨3, a0, a1, r.1, a3, by omega, by first | rfl | go_num, by have := HOK.out.1; rw [HR.out] at this ⊢; exact this, by have := HOK.out.2.1; exact this, ⟨fun _ => HN.out.h0 (by decide), fun _ => HN.out.h1 (by decide), fun _ => by rw [HR.out]; rfl, fun h => absurd h (by decide)⟩, HOK.out.2.2⟩
        case measure => first | decide | (simp [intOf]; done) | (simp [intOf]; omega)
      · have hi2 : _ = Value.int .i64 (3 : Int) := hi
        subst hi2
        have cn := rdnum_tot b 4611686018427387904 (stBt s 3) _ hr (by decide)
        obtain ⟨r, hr0⟩ : ∃ r, r = numS 4611686018427387904 (stBt s 3) := ⟨_, rfl⟩
        have hrb : r.1 < 18446744073709551616 := by rw [hr0]; have := numS_le 4611686018427387904 (stBt s 3); omega
        rw [← hr0] at cn
        have HR := hide hr0
        have HN := hide hN
        have hgl := ar.lt
        have hbl2 := hr.lt
        clear hi hr0 hN hr
        go_wp2_with fail
        refine cn.mono ?_
        rintro e w6 ⟨rfl, h6, t6⟩
        have ar6 := ar.turn t6 (by omega)
        have hb6 := hb.trans (t6.below (Nat.le_of_lt hbl2) (Nat.le_refl _) (fun g hg => by cases hg))
        have hs6 := t6.size
        obtain ⟨g0, g1, g2, g3⟩ := ar6.cells
        have fz := ar6.frozen
        have hlt6 := ar6.lt
        have hok := (And.intro (h6.other (p := ⟨G, 3, none⟩) hbG (.int .u64 (r.1 : Int))) (And.intro (ar6.set3 r.1) (hb6.setCell (p := ⟨G, 3, none⟩) (Nat.le_of_lt hbG) (.int .u64 (r.1 : Int)))))
        have HOK := hide hok
        clear cn ar hb hok h6 ar6 t6 hb6
        go_wp2
        go_roundw
        case rel => exact ⟨4, a0, a1, a2, r.1, by omega, by first | rfl | go_num, by have := HOK.out.1; rw [HR.out] at this ⊢; exact this, by have := HOK.out.2.1; exact this, ⟨fun _ => HN.out.h0 (by decide), fun _ => HN.out.h1 (by decide), fun _ => HN.out.h2 (by decide), fun _ => by rw [HR.out]; rfl⟩, HOK.out.2.2⟩
        case measure => first | decide | (simp [intOf]; done) | (simp [intOf]; omega)
    · obtain rfl : j = 4 := by omega
      have hi2 : _ = Value.int .i64 (4 : Int) := hi
      subst hi2
      have hgl := ar.lt
      have hbl2 := hr.lt
      have ha : getBt s = (⟨a0, a1, a2, a3, (pidsS 24 (stBt s 4)).1⟩, (pidsS 24 (stBt s 4)).2) := by
        rw [hN.h0 (by decide), hN.h1 (by decide), hN.h2 (by decide), hN.h3 (by decide)]; rfl
      have hq24 := pidsS_le 24 (stBt s 4)
      have hu : a0 < 18446744073709551616 ∧ a1 < 18446744073709551616 ∧ a2 < 18446744073709551616 ∧ a3 < 18446744073709551616 := by
        rw [hN.h0 (by decide), hN.h1 (by decide), hN.h2 (by decide), hN.h3 (by decide)]
        exact ⟨nmBt_lt s 0, nmBt_lt s 1, nmBt_lt s 2, nmBt_lt s 3⟩
      have cp := rdpids_tot b 24 (stBt s 4) _ hr (by decide)
      obtain ⟨r, hr0⟩ : ∃ r, r = pidsS 24 (stBt s 4) := ⟨_, rfl⟩
      rw [← hr0] at cp ha hq24
      have HA := hide (And.intro ha hu)
      have hr0' := hr0
      clear hi hj hlt ha hu hr0 hN
      have zz := HZ.out.1.keep hbw hb
      have hbB := HZ.out.2.trans (hb.mono (Nat.le_of_lt hbw))
      have cp' : ∀ W, RdAt W b (stBt s 4).l (stBt s 4).t → Calls Tryd.prog 54 #[.pointer (some ⟨b, 0, none⟩), .int .i64 24] W (PidsT W b r) := fun W hW => by
        have := rdpids_tot b 24 (stBt s 4) W hW (by decide)
        rwa [← hr0'] at this
      have cb := fun A n c W => beatof_any a0 a1 a2 a3 A n c W
      generalize wr = W at *
      clear hr0' cp
      obtain ⟨g0, g1, g2, g3⟩ := ar.cells
      have ar1 : ArA (W.alloc (.cells #[.int .u64 0, .int .u64 0, .int .u64 0, .int .u64 0, .slice none 0 0] 52)) G a0 a1 a2 a3 := (Below.heap_alloc W _ G hgl).trans ar
      obtain ⟨j0, j1, j2, j3⟩ := ar1.cells
      have ar0' : ArA W.drew G a0 a1 a2 a3 := ar
      have ar1' : ArA (W.alloc (.cells #[.int .u64 0, .int .u64 0, .int .u64 0, .int .u64 0, .slice none 0 0] 52)).drew G a0 a1 a2 a3 := ar1
      have hr0' : RdAt W.drew b (stBt s 4).l (stBt s 4).t := hr.later ((Below.refl _ _).drew)
      have hr1' : RdAt (W.alloc (.cells #[.int .u64 0, .int .u64 0, .int .u64 0, .int .u64 0, .slice none 0 0] 52)).drew b (stBt s 4).l (stBt s 4).t := (hr.alloc (.cells #[.int .u64 0, .int .u64 0, .int .u64 0, .int .u64 0, .slice none 0 0] 52)).later ((Below.refl _ _).drew)
      have hwW : w.heap.size < W.heap.size := by omega
      have zz0 : BAt W.drew w.heap.size ⟨0, 0, 0, 0, none, 0, 0, []⟩ := zz
      have zz1 : BAt (W.alloc (.cells #[.int .u64 0, .int .u64 0, .int .u64 0, .int .u64 0, .slice none 0 0] 52)).drew w.heap.size ⟨0, 0, 0, 0, none, 0, 0, []⟩ := zz.alloc _
      have nz1 : BAt (W.alloc (.cells #[.int .u64 0, .int .u64 0, .int .u64 0, .int .u64 0, .slice none 0 0] 52)).drew W.heap.size ⟨0, 0, 0, 0, none, 0, 0, []⟩ := heap_alloc_new W _
      have bl0 : Below w.heap.size w W.drew := hbB.drew
      have bl1 : Below w.heap.size w (W.alloc (.cells #[.int .u64 0, .int .u64 0, .int .u64 0, .int .u64 0, .slice none 0 0] 52)).drew := (hbB.alloc hbB.size _).drew
      have hz1 : (W.alloc (.cells #[.int .u64 0, .int .u64 0, .int .u64 0, .int .u64 0, .slice none 0 0] 52)).drew.heap.size = W.heap.size + 1 := by simp
      have hz0 : W.drew.heap.size = W.heap.size := rfl
      go_wp2_with fail
      refine wp_region_pick3 (DbS w b a0 a1 a2 a3 r) ?_
      apply Exists.intro
      apply And.intro
      · go_region_law (first | (go_simp; go_at_call 54; (first | with_reducible refine (cp' _ hr0').mono ?_ | with_reducible refine (cp' _ hr1').mono ?_); rintro e w8 ⟨A8, c8, rfl, ho8, hr8, ht8⟩; first | (have ar8 := ar0'.turn ht8 (by omega); have zz8 := zz0.turn ht8 (by omega); have bl8 := bl0.trans (ht8.below (by omega) (by omega) (fun g hg => by cases hg)); have ow8 : OwnP w8 (w.heap.size + 1) (.slice A8 r.1.length c8) r.1.length r.1 := ho8.mono (by omega); obtain ⟨q0, q1, q2, q3⟩ := ar8.cells; have hs8 := ht8.size; have hg8 := ar8.lt) | (have ar8 := ar1'.turn ht8 (by omega); have zz8 := zz1.turn ht8 (by omega); have nz8 := nz1.turn ht8 (by omega); have bl8 := bl1.trans (ht8.below (by omega) (by omega) (fun g hg => by cases hg)); have ow8 : OwnP w8 (w.heap.size + 1) (.slice A8 r.1.length c8) r.1.length r.1 := ho8.mono (by omega); have oh8 : OwnP w8 (W.heap.size + 1) (.slice A8 r.1.length c8) r.1.length r.1 := ho8.mono (by omega); obtain ⟨q0, q1, q2, q3⟩ := ar8.cells; have hs8 := ht8.size; have hg8 := ar8.lt)) | (go_simp; go_at_call 53; with_reducible refine (cb _ _ _ _).mono ?_; rintro e w9 ⟨rfl, hb9⟩; first | (have hb9' : Below w8.heap.size w8 w9 := hb9; have nz9 := nz8.later hb9; have oh9 := OwnE.later oh8 hb9; obtain ⟨z0, z1, z2, z3, z4⟩ := nz9.cells; have fz := nz9.frozen) | (have hb9' : Below w8.heap.size w8 w9 := hb9) | (have hb9' : Below w8.heap.size w8 w9 := ((Below.refl _ w8).alloc (Nat.le_refl _) _).trans (hb9.mono (by simp)); have nz9 : BAt w9 w8.heap.size ⟨0, 0, 0, 0, none, 0, 0, []⟩ := (BAt.zero w8).later hb9; obtain ⟨z0, z1, z2, z3, z4⟩ := nz9.cells; have fz := nz9.frozen)))
        all_goals first
          | (have hf : DbS w b a0 a1 a2 a3 r W.heap.size A8 c8 _ := DbS.store_ (zz8.later hb9') (hr8.later hb9') oh9 (bl8.trans (hb9'.mono bl8.size)) nz9 (by omega) (by omega)
             generalize W.heap.size = H at hf ⊢
             exact ⟨H, A8, c8, hf, rfl⟩)
          | (have hf : DbS w b a0 a1 a2 a3 r w8.heap.size A8 c8 _ := DbS.later_ zz8 hr8 ow8 bl8 (below_beat hb9' (Nat.le_refl _) _ _ _ _ _) (nz9.put a0 a1 a2 a3 A8 _ c8 r.1) (by omega)
             generalize w8.heap.size = H at hf ⊢
             exact ⟨H, A8, c8, hf, rfl⟩)
          | (have hf : DbS w b a0 a1 a2 a3 r w9.heap.size A8 c8 (w9.alloc (.cells #[.int .u64 (a0 : Int), .int .u64 (a1 : Int), .int .u64 (a2 : Int), .int .u64 (a3 : Int), .slice A8 r.1.length c8] 52)) := DbS.later_ zz8 hr8 ow8 bl8 (hb9'.alloc hb9'.size _) (heap_alloc_new w9 _) (by have := hb9'.size; omega)
             generalize w9.heap.size = H at hf ⊢
             exact ⟨H, A8, c8, hf, rfl⟩)
      · intro H A8 c8 W9 S9
        clear g0 g1 g2 g3 ar1 j0 j1 j2 j3 ar0' ar1' hr0' hr1' zz0 zz1 nz1 bl0 bl1 hz0 hz1 cp' cb ar hr zz hbB hb hbs hgl
        have bt9 := S9.bt
        have rd9 := S9.rd
        have zz9 := S9.zz
        have bl9 := S9.bl
        have ow9 := S9.ow
        have hbH := S9.hb
        have hlH := bt9.lt
        have ce := rdend_any b r.2.l r.2.t W9 rd9
        obtain ⟨f, hf⟩ : ∃ f, f = endF r.2.l r.2.t := ⟨_, rfl⟩
        rw [← hf] at ce
        have HF := hide hf
        have hcap := OwnE.cap ow9
        have hx9 : BxIn W9 W9.heap.size ⟨a0, a1, a2, a3, A8, r.1.length, c8, r.1⟩ := ⟨HA.out.2.1, HA.out.2.2.1, HA.out.2.2.2.1, HA.out.2.2.2.2, OwnE.es prOk ow9, hcap.1, hcap.2⟩
        obtain ⟨t, ht⟩ := bool_of (MayB ⟨a0, a1, a2, a3, r.1⟩)
        have cm := maybeat_any ⟨a0, a1, a2, a3, A8, r.1.length, c8, r.1⟩ W9.heap.size W9 t hx9 (Nat.le_refl _) ht
        have HW := hide (And.intro ht (And.intro bl9 hx9))
        have HO := hide ow9
        clear hf hx9 S9 ow9 rd9 ht bl9
        go_wp2_with fail
        refine ce.mono ?_
        rintro e w5 ⟨rfl, rfl⟩
        clear ce
        obtain ⟨k0, k1, k2, k3, k4⟩ := bt9.cells
        obtain ⟨z0, z1, z2, z3, z4⟩ := zz9.cells
        have fz := zz9.frozen
        have hlz := zz9.lt
        by_cases h0 : f = 0
        case neg =>
          have x0 : ((f : Int) != 0) = true := by rw [bne_iff_ne]; omega
          have hdm : decBt l = (zeroBt, f) := by rw [HX.out.1 (by rw [HA.out.1, ← HF.out]; exact h0), HA.out.1, ← HF.out]
          have hz := zz9.put 0 0 0 0 none 0 0 []
          have hzb := below_beat HW.out.2.1 (Nat.le_refl w.heap.size) (.int .u64 (0 : Int)) (.int .u64 (0 : Int)) (.int .u64 (0 : Int)) (.int .u64 (0 : Int)) (.slice none 0 0)
          have HDM := hide (And.intro hdm (And.intro hz hzb))
          clear hdm h0 cm hz hzb
          go_wp2
          refine bodyPost_ret (v := .tuple #[.agg #[.int .u64 0, .int .u64 0, .int .u64 0, .int .u64 0, .slice none 0 0], .int .i64 (f : Int)]) (res_cell_slot Tryd.results18 _ _ (w.heap.size) _ _ _ _ _ rfl rfl HDM.out.2.1 Tryd.underlying52 rfl rfl) rfl ?_
          exact ⟨⟨0, 0, 0, 0, none, 0, 0, []⟩, by rw [HDM.out.1]; rfl, by rw [HDM.out.1]; rfl, BxIn.zero _ _, by decide, HDM.out.2.2⟩
        have x0 : ((f : Int) != 0) = false := by rw [h0]; rfl
        cases t
        · have hdm : decBt l = (zeroBt, 5) := HX.out.2.2 (by rw [HA.out.1, ← HF.out]; exact h0) (by rw [HA.out.1]; exact fun e => by have := HW.out.1.2 e; cases this)
          clear h0
          have HDM := hide hdm
          go_wp2_with fail
          refine cm.mono ?_
          rintro e w6 ⟨rfl, hb6⟩
          have zz6 := zz9.later hb6
          have bl6 := HW.out.2.1.trans (hb6.mono HW.out.2.1.size)
          have hz := zz6.put 0 0 0 0 none 0 0 []
          have hzb := below_beat bl6 (Nat.le_refl w.heap.size) (.int .u64 (0 : Int)) (.int .u64 (0 : Int)) (.int .u64 (0 : Int)) (.int .u64 (0 : Int)) (.slice none 0 0)
          have HDZ := hide (And.intro hz hzb)
          obtain ⟨y0, y1, y2, y3, y4⟩ := zz6.cells
          have fz6 := zz6.frozen
          have hlz6 := zz6.lt
          clear hdm cm hz hzb bl6 hb6 k0 k1 k2 k3 k4 z0 z1 z2 z3 z4 fz zz9
          go_wp2
          refine bodyPost_ret (v := .tuple #[.agg #[.int .u64 0, .int .u64 0, .int .u64 0, .int .u64 0, .slice none 0 0], .int .i64 5]) (res_cell_slot Tryd.results18 _ _ (w.heap.size) _ _ _ _ _ rfl rfl HDZ.out.1 Tryd.underlying52 rfl rfl) rfl ?_
          exact ⟨⟨0, 0, 0, 0, none, 0, 0, []⟩, by rw [HDM.out]; rfl, by rw [HDM.out]; rfl, BxIn.zero _ _, by decide, HDZ.out.2⟩
        · have hdm : decBt l = (⟨a0, a1, a2, a3, r.1⟩, 0) := by rw [HX.out.2.1 (by rw [HA.out.1, ← HF.out]; exact h0) (by rw [HA.out.1]; exact HW.out.1.1 rfl), HA.out.1]
          clear h0
          have HDM := hide hdm
          go_wp2_with fail
          refine cm.mono ?_
          rintro e w6 ⟨rfl, hb6⟩
          have zz6 := zz9.later hb6
          have bt6 := bt9.later hb6
          have ow6 := OwnE.later HO.out hb6
          have bl6 := HW.out.2.1.trans (hb6.mono HW.out.2.1.size)
          have hz := zz6.put a0 a1 a2 a3 A8 r.1.length c8 r.1
          have hzb := below_beat bl6 (Nat.le_refl w.heap.size) (.int .u64 (a0 : Int)) (.int .u64 (a1 : Int)) (.int .u64 (a2 : Int)) (.int .u64 (a3 : Int)) (.slice A8 r.1.length c8)
          have oz := OwnE.setLow (OwnE.setLow (OwnE.setLow (OwnE.setLow (OwnE.setLow ow6 (p := ⟨w.heap.size, 0, none⟩) (Nat.lt_succ_self _) (.int .u64 (a0 : Int))) (p := ⟨w.heap.size, 1, none⟩) (Nat.lt_succ_self _) (.int .u64 (a1 : Int))) (p := ⟨w.heap.size, 2, none⟩) (Nat.lt_succ_self _) (.int .u64 (a2 : Int))) (p := ⟨w.heap.size, 3, none⟩) (Nat.lt_succ_self _) (.int .u64 (a3 : Int))) (p := ⟨w.heap.size, 4, none⟩) (Nat.lt_succ_self _) (.slice A8 r.1.length c8)
          have HDZ := hide (And.intro hz (And.intro hzb oz))
          obtain ⟨y0, y1, y2, y3, y4⟩ := zz6.cells
          obtain ⟨m0, m1, m2, m3, m4⟩ := bt6.cells
          have fz6 := zz6.frozen
          have hlz6 := zz6.lt
          clear hdm cm hz hzb oz ow6 bl6 hb6 k0 k1 k2 k3 k4 z0 z1 z2 z3 z4 fz zz9 bt9
          go_wp2
          refine bodyPost_ret (v := .tuple #[.agg #[.int .u64 (a0 : Int), .int .u64 (a1 : Int), .int .u64 (a2 : Int), .int .u64 (a3 : Int), .slice A8 r.1.length c8], .int .i64 0]) (res_cell_slot Tryd.results18 _ _ (w.heap.size) _ _ _ _ _ rfl rfl HDZ.out.1 Tryd.underlying52 rfl rfl) rfl ?_
          exact ⟨⟨a0, a1, a2, a3, A8, r.1.length, c8, r.1⟩, by rw [HDM.out]; rfl, by rw [HDM.out]; rfl, ⟨HA.out.2.1, HA.out.2.2.1, HA.out.2.2.2.1, HA.out.2.2.2.2, OwnE.es prOk HDZ.out.2.2, hcap.1, hcap.2⟩, hq24, HDZ.out.2.1⟩
end Go.Proofs.YtjmkecaljkcoiaaDoor
