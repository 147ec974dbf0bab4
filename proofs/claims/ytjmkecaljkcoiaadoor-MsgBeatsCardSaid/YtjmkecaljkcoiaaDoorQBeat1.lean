import Derived.Test.YtjmkecaljkcoiaaDoorRows
import Derived.Lib.LaidTab
import Derived.OpenShut
import Derived.LaidByTextLater
import Derived.Test.YtjmkecaljkcoiaaDoorQMsg1
import Derived.Test.YtjmkecaljkcoiaaDoorQOpenMg
import Derived.Test.YtjmkecaljkcoiaaDoorQKey3
import Derived.Test.YtjmkecaljkcoiaaDoorQView4
import Derived.Test.YtjmkecaljkcoiaaDoorQPid1
namespace Go.Proofs.YtjmkecaljkcoiaaDoor
set_option linter.unusedSimpArgs false
open Go.RowKit Go.Lib Go.ChangeShapes Go.WideShapes
theorem gKinds : Tryd.prog.globalNamed "choragus/msg.kinds" = some 0 := by kernel_rfl
theorem tKinds : (Tryd.prog.globals[0]?).map (·.type) = some 111 := by kernel_rfl
theorem cellsKind : Tryd.prog.cellsOf 110 = 2 := by kernel_rfl
theorem cellsKinds : Tryd.prog.cellsOf 111 = 30 := by kernel_rfl
theorem cellsStr10 : Tryd.prog.cellsOf 9 = 1 := by kernel_rfl
theorem cellsFields : Tryd.prog.cellsOf 74 = 1 := by kernel_rfl
set_option maxRecDepth 100000 in
theorem kind_cells {H : Type} {enc : TypeId × Value → H} {w : World} {base : Nat} {sp : Nat → Bool} {held : Bool} {fuel : Nat} {cs : List Value} {x : DataW H × List MemPlace} (h : DataW.trod enc Tryd.prog w base sp held fuel 110 cs = some x) :
    ∃ (s : ByteArray) (n : Int), cs = [.string s, .int .u16 n] ∧ x.1 = .agg [.lit (.string s.data.toList), .lit (.int .u16 n)] := by
  obtain ⟨y0, y1, n, hx, hl, h0, h1⟩ := trod_struct2 Tryd.underlying110 h
  rw [cellsKind] at hl
  match cs, hl with
  | [a, b], _ =>
    simp only [cellsStr10, cellsFields, List.drop_zero, List.drop_succ_cons, List.take_succ_cons, List.take_zero] at h0 h1
    obtain ⟨s, e0, q0, _⟩ := DataW.trod_string Tryd.underlying9 h0
    obtain ⟨m, e1, q1, _⟩ := DataW.trod_int Tryd.underlying74 h1
    simp only [List.cons.injEq, and_true] at e0 e1
    subst e0 e1 q0 q1
    exact ⟨s, m, rfl, by rw [hx]⟩
def kindD {H : Type} (i : Nat) : DataW H := match (Rows.laid_choragus_msg_kinds : DataW H) with | .agg l => l.getD i .nil | _ => .nil
theorem kindD_has {H : Type} {i : Nat} (hi : i < 15) : ∃ t, (kindD i : DataW H) = .agg [.lit (.string t), .lit (.int .u16 ((tabM i : Nat) : Int))] := by
  have : i = 0 ∨ i = 1 ∨ i = 2 ∨ i = 3 ∨ i = 4 ∨ i = 5 ∨ i = 6 ∨ i = 7 ∨ i = 8 ∨ i = 9 ∨ i = 10 ∨ i = 11 ∨ i = 12 ∨ i = 13 ∨ i = 14 := by omega
  rcases this with rfl | rfl | rfl | rfl | rfl | rfl | rfl | rfl | rfl | rfl | rfl | rfl | rfl | rfl | rfl <;> exact ⟨_, rfl⟩
set_option maxRecDepth 100000 in
theorem kinds_of {W : World} {rest : List (String × DataW Unit)} (h : laidMet Tryd.prog (("choragus/msg.kinds", Rows.laid_choragus_msg_kinds) :: rest) W) : Kinds W := by
  obtain ⟨ps, ⟨g', t', cs, fuel, p, q, hg', ht', hvar, hd, _, _⟩, _⟩ := h
  obtain rfl := Option.some.inj (gKinds.symm.trans hg')
  obtain rfl := Option.some.inj (tKinds.symm.trans ht')
  obtain ⟨xs, m, _, hx, hl, hlen, hf⟩ := DataW.trod_array Tryd.underlying111 hd
  rw [cellsKinds] at hl
  simp only [cellsKind] at hf
  intro i hi
  have hfi := hf i hi
  have hxl : i < xs.length := by omega
  rw [List.getElem?_eq_getElem hxl] at hfi
  obtain ⟨s, n, e, e2⟩ := kind_cells hfi
  have hk : (xs[i].1 : DataW Unit) = kindD i := by
    have e3 := congrArg Prod.fst hx
    simp only at e3
    unfold kindD
    rw [e3]
    simp [List.getD, hxl]
  obtain ⟨t, et⟩ := kindD_has (H := Unit) hi
  rw [hk, et] at e2
  have hn : n = ((tabM i : Nat) : Int) := by
    injection e2 with e2
    injection e2 with _ e2
    injection e2 with e2 _
    injection e2 with e2
    injection e2 with _ e2
    exact e2.symm
  have hc := World.var?_cell gKinds hvar (i * 2 + 1)
  rw [hc]
  have := congrArg (·[1]?) e
  simp only [List.getElem?_take, List.getElem?_drop] at this
  simp at this
  rw [← hn]
  simpa using this
end Go.Proofs.YtjmkecaljkcoiaaDoor
namespace Go.Proofs.YtjmkecaljkcoiaaDoor
open Go.RowKit Go.Maps
set_option linter.unusedVariables false
set_option linter.unusedSimpArgs false
def aheadP (p q : Pr) : Bool := aheadB p.i p.k q.i q.k
structure UpTo (l : List Pr) (j : Nat) : Prop where
  may : ∀ k (h : k < l.length), k < j → mayP l[k] = true
  up : ∀ k (h : k + 1 < l.length), k + 1 < j → aheadP l[k] l[k + 1] = true
theorem UpTo.start (l : List Pr) : UpTo l 0 := ⟨fun k h hk => absurd hk (by omega), fun k h hk => absurd hk (by omega)⟩
theorem UpTo.one {l : List Pr} (h : 0 < l.length) (hm : mayP l[0] = true) : UpTo l 1 :=
  ⟨fun k hk hj => by obtain rfl : k = 0 := by omega
                     exact hm, fun k hk hj => absurd hj (by omega)⟩
theorem UpTo.step {l : List Pr} {m : Nat} (hu : UpTo l (m + 1)) (h : m + 1 < l.length) (hm : mayP l[m + 1] = true) (ha : aheadP l[m] l[m + 1] = true) : UpTo l (m + 2) :=
  ⟨fun k hk hj => by
    by_cases e : k = m + 1
    · subst e; exact hm
    · exact hu.may k hk (by omega), fun k hk hj => by
    by_cases e : k = m
    · subst e; exact ha
    · exact hu.up k hk (by omega)⟩
theorem UpTo.gone {l : List Pr} {j : Nat} (h : j < l.length) (hm : mayP l[j] = false) : ¬ UpTo l l.length := fun e => by rw [e.may j h h] at hm; cases hm
theorem UpTo.low {l : List Pr} {m : Nat} (h : m + 1 < l.length) (hm : aheadP l[m] l[m + 1] = false) : ¬ UpTo l l.length := fun e => by rw [e.up m h h] at hm; cases hm
theorem UpTo.done {l : List Pr} {j : Nat} (h : UpTo l j) (hj : l.length ≤ j) : UpTo l l.length := ⟨fun k h1 h2 => h.may k h1 (by omega), fun k h1 h2 => h.up k h1 (by omega)⟩
structure MayB (b : Bt) : Prop where
  v : b.v ≤ 4611686018427387904
  a : b.a ≤ 4611686018427387904
  l : b.l ≤ 4611686018427387904
  s : b.s ≤ 4611686018427387904
  n : b.q.length ≤ 24
  up : UpTo b.q b.q.length
theorem ahead_pr (p q : Pr) (w : World) :
    Calls Tryd.prog 126 #[.agg #[.int .u16 (p.i : Int), .int .u32 (p.k : Int)], .agg #[.int .u16 (q.i : Int), .int .u32 (q.k : Int)]] w fun e w' => e = .returned (.bool (aheadP p q)) ∧ Below w.heap.size w w' :=
  ahead_any p.i p.k q.i q.k w p.hi p.hk q.hi q.hk
set_option maxRecDepth 100000 in
theorem mayrise_any (A : Option Addr) (n c : Nat) (l : List Pr) (B : Nat) (w : World) (t : Bool) (hA : Es prC w B A n l) (hB : B ≤ w.heap.size) (hn : n ≤ maxLen) (ht : t = true ↔ UpTo l l.length) :
    Calls Tryd.prog 99 #[.slice A n c] w fun e w' => e = .returned (.bool t) ∧ Below w.heap.size w w' := by
  unfold maxLen at hn
  have hlen := hA.len
  have HL := hide hlen
  have HT := hide ht
  clear hlen ht
  have h0 := UpTo.start l
  go_enter Tryd.func99, Tryd.ntmps99
  go_wp2
  go_loopw [7] (fun i wr => ∃ j : Nat, j ≤ n ∧ i = .int .i64 j ∧ UpTo l j ∧ Below w.heap.size w wr) (fun i _ => n - (intOf i).toNat)
  case atStart => exact ⟨0, Nat.zero_le _, rfl, h0, Below.refl _ _⟩
  case round =>
    obtain ⟨j, hj, rfl, hto, hb⟩ := hrel
    clear h0
    by_cases hlt : j < n
    · have hAr := hA.below (hb.mono hB)
      obtain ⟨ad, hl, rfl, hbl, hcc⟩ := hAr.at_ prOk hlt
      have s0 := fun h1 => UpTo.gone hl h1
      have s2 : j = 0 → mayP l[j] = true → UpTo l (j + 1) := fun e h1 => by subst e; exact UpTo.one hl h1
      have s3 := fun m (e : j = m + 1) => (by subst e; exact ⟨fun h1 => UpTo.low hl h1, fun h1 h2 => hto.step hl h1 h2⟩ : (aheadP (l[m]'(by omega)) l[j] = false → ¬ UpTo l l.length) ∧ (mayP l[j] = true → aheadP (l[m]'(by omega)) l[j] = true → UpTo l (j + 1)))
      obtain ⟨p, hp⟩ : ∃ p, p = l[j] := ⟨_, rfl⟩
      rw [← hp] at hcc s0 s2
      simp only [← hp] at s3
      obtain ⟨c0, c1⟩ := pr_at hcc
      have hb1 : Below w.heap.size w (wr.alloc (.cells #[.int .u16 (p.i : Int), .int .u32 (p.k : Int)] 25)) := hb.alloc hb.size _
      have u0 : (wr.alloc (.cells #[.int .u16 (p.i : Int), .int .u32 (p.k : Int)] 25)).cell? ⟨wr.heap.size, 0, none⟩ = some (.int .u16 (p.i : Int)) := by go_simp
      have u1 : (wr.alloc (.cells #[.int .u16 (p.i : Int), .int .u32 (p.k : Int)] 25)).cell? ⟨wr.heap.size, 1, none⟩ = some (.int .u32 (p.k : Int)) := by go_simp
      have hA1 := hA.below (hb1.mono hB)
      clear hcc hAr hto hp
      go_wp2_with fail
      generalize wr.alloc (.cells #[.int .u16 (p.i : Int), .int .u32 (p.k : Int)] 25) = w1 at *
      have e0 := Later.cell u0
      have e1 := Later.cell u1
      have cm := fun x : Later w1 => calm_of (may_any p x.w)
      clear c0 c1 u0 u1
      cases hm : mayP p
      · rw [hm] at cm
        have ca := cm
        clear s2 s3 hA1
        have HF := hide (not_of_iff HT.out (s0 hm))
        refine wp_region_calm (by kernel_rfl) (by kernel_rfl) ?_
        repeat (go_big_quiet_step (first | (go_at_call 76; with_reducible exact cm _) | (go_at_call 126; with_reducible exact ca _)))
        refine wpQuiet_nil ?_
        rintro _ ⟨x9, rfl⟩
        have hb9 := x9.below
        generalize x9.w = w9 at hb9 ⊢
        have hb10 := hb1.trans (hb9.mono hb1.size)
        clear cm e0 e1 hb9
        go_wp2
        go_ret
        exact ⟨ret_bool HF.out.symm, hb10⟩
      · rw [hm] at cm
        clear s0
        by_cases hj0 : j = 0
        · have hyes := s2 hj0 hm
          subst hj0
          have ca := cm
          clear s2 s3 hA1
          have HS := hide (hyes)
          refine wp_region_calm (by kernel_rfl) (by kernel_rfl) ?_
          repeat (go_big_quiet_step (first | (go_at_call 76; with_reducible exact cm _) | (go_at_call 126; with_reducible exact ca _)))
          refine wpQuiet_nil ?_
          rintro _ ⟨x9, rfl⟩
          have hb9 := x9.below
          generalize x9.w = w9 at hb9 ⊢
          have hb10 := hb1.trans (hb9.mono hb1.size)
          clear cm e0 e1 hb9
          go_wp2
          go_roundw
          case rel => exact ⟨1, by omega, by go_num, HS.out, hb10⟩
          case measure => simp [intOf]; omega
        · obtain ⟨m, rfl⟩ : ∃ m, j = m + 1 := ⟨j - 1, by omega⟩
          obtain ⟨ad', hl', had', _, hcc'⟩ := hA1.at_ prOk (show m < n by omega)
          obtain rfl : ad = ad' := by injection had'
          have s4 := s3 m rfl
          obtain ⟨p0, hp0⟩ : ∃ p, p = l[m] := ⟨_, rfl⟩
          rw [← hp0] at hcc' s4
          obtain ⟨d2, d3⟩ := pr_at hcc'
          have e2 := Later.cellAt d2
          have e3 := Later.cellAt d3
          have ca := fun x : Later w1 => calm_of (ahead_pr p0 p x.w)
          have y0 : decide ((0 : Int) < ((m + 1 : Nat) : Int)) = true := decide_eq_true (by omega)
          have y1 : ((m + 1 : Nat) : Int) - 1 = (m : Int) := by omega
          have y2 : (m : Int) < (n : Int) := by omega
          have y3 : (0 : Int) ≤ (m : Int) := by omega
          clear s2 s3 hA1 hcc' d2 d3 hp0 had'
          cases ha : aheadP p0 p
          · rw [ha] at ca
            have HF := hide (not_of_iff HT.out (s4.1 ha))
            refine wp_region_calm (by kernel_rfl) (by kernel_rfl) ?_
            repeat (go_big_quiet_step (first | (go_at_call 76; with_reducible exact cm _) | (go_at_call 126; with_reducible exact ca _)))
            refine wpQuiet_nil ?_
            rintro _ ⟨x9, rfl⟩
            have hb9 := x9.below
            generalize x9.w = w9 at hb9 ⊢
            have hb10 := hb1.trans (hb9.mono hb1.size)
            clear cm e0 e1 hb9
            go_wp2
            go_ret
            exact ⟨ret_bool HF.out.symm, hb10⟩
          · rw [ha] at ca
            have HS := hide (s4.2 hm ha)
            refine wp_region_calm (by kernel_rfl) (by kernel_rfl) ?_
            repeat (go_big_quiet_step (first | (go_at_call 76; with_reducible exact cm _) | (go_at_call 126; with_reducible exact ca _)))
            refine wpQuiet_nil ?_
            rintro _ ⟨x9, rfl⟩
            have hb9 := x9.below
            generalize x9.w = w9 at hb9 ⊢
            have hb10 := hb1.trans (hb9.mono hb1.size)
            clear cm e0 e1 hb9
            go_wp2
            go_roundw
            case rel => exact ⟨m + 2, by omega, by go_num, HS.out, hb10⟩
            case measure => simp [intOf]; omega
    · have hd := HT.out.2 (hto.done (by rw [HL.out]; omega))
      have HD := hide hd
      clear hd hto
      go_wp2
      go_ret
      exact ⟨ret_bool HD.out.symm, hb⟩
end Go.Proofs.YtjmkecaljkcoiaaDoor
