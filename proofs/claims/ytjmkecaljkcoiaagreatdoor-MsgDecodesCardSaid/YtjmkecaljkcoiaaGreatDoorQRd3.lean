import Derived.Test.YtjmkecaljkcoiaaGreatDoorQRd2
import Derived.Test.YtjmkecaljkcoiaaGreatDoorQFlow
namespace Go.Proofs.YtjmkecaljkcoiaaGreatDoor
open Go.RowKit
set_option linter.unusedVariables false
set_option linter.unusedSimpArgs false
def numE (l : List UInt8) (most : Nat) : Nat := if (getF l).2.2 = 0 then (if most < (getF l).1 then 3 else 0) else (getF l).2.2
def Num1P (w : World) (b : Nat) (l : List UInt8) (most : Nat) : Ending → World → Prop := CloP w b (fun v _ => ∃ (n : Nat), v = .int .u64 n) (fun v _ => v = .int .u64 ((getF l).1 : Nat)) (l.drop (getF l).2.1) (numE l most)
theorem CloP.num {w : World} {b : Nat} {l : List UInt8} {most n k t v : Nat} {l' : List UInt8} {e : Ending} {w' : World} (h1 : getF l = (n, k, t)) (h2 : v = numE l most) (h3 : ReadsP w b (.int .u64 n) l' v e w') (h4 : v = 0 → l' = l.drop k) :
    Num1P w b l most e w' := by
  subst h2
  obtain ⟨he, hR, hT⟩ := h3
  refine ⟨_, l', he, ⟨n, rfl⟩, hR, hT, fun ht => ⟨?_, ?_⟩⟩
  · rw [h1]; exact h4 ht
  · rw [h1]
set_option maxRecDepth 100000 in
theorem num1_any (b p q : Nat) (l : List UInt8) (most : Nat) (w : World) (h : RdAt w b l 0) (hp : w.cell? ⟨p, 0, none⟩ = some (.pointer (some ⟨b, 0, none⟩))) (hq : w.cell? ⟨q, 0, none⟩ = some (.int .u64 most)) (hpb : p ≠ b) (hqb : q ≠ b) (hmost : most < 18446744073709551616) :
    Calls Tryz.prog 158 #[.pointer (some ⟨p, 0, none⟩), .pointer (some ⟨q, 0, none⟩)] w (Num1P w b l most) := by
  have hbd := getF_bds l
  have hE : ∀ n k t : Nat, getF l = (n, k, t) → numE l most = if t = 0 then (if most < n then 3 else 0) else t := by
    intro n k t h1
    unfold numE
    rw [h1]
  have cp := fun W k (h : RdAt W b l 0) (hk : k ≤ l.length) => pass_ok b l 0 k W h hk
  have ce := fun W k u (h : RdAt W b l 0) (hu : u ≠ 0) => pass_bad b l k u W h hu
  have cs := fun W l' (h : RdAt W b l' 0) => stop_first b l' 3 W h
  have cs' := fun W l' t (h : RdAt W b l' t) (ht : t ≠ 0) => stop_more b l' t 3 W h ht
  obtain ⟨A, c, h0⟩ := id h
  obtain ⟨f0, f1⟩ := h0.cells
  have cg := fun W (h : Bs W b A l.length l) => getShort_any A l.length c l b W h (Nat.le_trans h0.2.2.1 h0.2.2.2)
  have hbs := h0.2.1
  obtain ⟨n, k, t, hr⟩ : ∃ n k t, getF l = (n, k, t) := ⟨_, _, _, rfl⟩
  have hE := hE n k t hr
  have HZ := Lib.hid (fun v l' e w' => @CloP.num w b l most n k t v l' e w' hr)
  rw [hr] at hbd cg
  simp only at hbd cg
  obtain ⟨hn, hk, -, -⟩ := hbd
  clear hr h0
  have g1 := fun W (ht : Turn w W b none) => ht.cell hp (by simpa using hpb) (by simp)
  have g2 := fun W (ht : Turn w W b none) => ht.cell hq (by simpa using hqb) (by simp)
  by_cases ht : t = 0
  · subst ht
    by_cases hmn : most < n
    · rw [if_pos rfl, if_pos hmn] at hE
      have HE := hide hE
      clear hE ce cs'
      go_enter Tryz.func158, Tryz.ntmps158
      go_wp2_with fail
      refine (cg _ hbs).mono ?_
      rintro e w' ⟨rfl, rfl⟩
      clear cg
      go_wp2_with fail
      refine (cp _ k h hk).mono ?_
      rintro e w1 ⟨rfl, h1, ht1⟩
      have hp1 := g1 _ ht1
      have hq1 := g2 _ ht1
      clear hp hq cp g1 g2 f0 f1
      go_wp2_with fail
      refine (cs _ _ h1).mono ?_
      rintro e w2 ⟨rfl, h2, ht2⟩
      have hz := HZ.out 3 _ (.returned (.int .u64 n)) w2 HE.out.symm ⟨rfl, h2, ht1.trans ht2 (Mov.refl _ _)⟩ (fun e => by cases e)
      have HW := hide hz
      clear hz h1 h2 ht1 ht2 cs hp1 hq1
      go_wp2
      go_ret
      exact HW.out
    · rw [if_pos rfl, if_neg hmn] at hE
      have HE := hide hE
      clear hE ce cs cs'
      go_enter Tryz.func158, Tryz.ntmps158
      go_wp2_with fail
      refine (cg _ hbs).mono ?_
      rintro e w' ⟨rfl, rfl⟩
      clear cg
      go_wp2_with fail
      refine (cp _ k h hk).mono ?_
      rintro e w1 ⟨rfl, h1, ht1⟩
      have hp1 := g1 _ ht1
      have hq1 := g2 _ ht1
      have hz := HZ.out 0 _ (.returned (.int .u64 n)) w1 HE.out.symm ⟨rfl, h1, ht1⟩ (fun _ => rfl)
      have HW := hide hz
      clear hz hp hq cp g1 g2 f0 f1 h1 ht1
      go_wp2
      go_ret
      exact HW.out
  · rw [if_neg ht] at hE
    have HE := hide hE
    have HT := hide ht
    clear hE cp cs
    by_cases hmn : most < n
    · go_enter Tryz.func158, Tryz.ntmps158
      go_wp2_with fail
      refine (cg _ hbs).mono ?_
      rintro e w' ⟨rfl, rfl⟩
      clear cg
      go_wp2_with fail
      refine (ce _ k t h HT.out).mono ?_
      rintro e w1 ⟨rfl, h1, ht1⟩
      have hp1 := g1 _ ht1
      have hq1 := g2 _ ht1
      clear hp hq ce g1 g2 f0 f1
      go_wp2_with fail
      refine (cs' _ _ _ h1 HT.out).mono ?_
      rintro e w2 ⟨rfl, h2, ht2⟩
      have hz := HZ.out t _ (.returned (.int .u64 n)) w2 HE.out.symm ⟨rfl, h2, ht1.trans ht2 (Mov.refl _ _)⟩ (fun e => absurd e HT.out)
      have HW := hide hz
      clear hz h1 h2 ht1 ht2 cs' hp1 hq1 ht
      go_wp2
      go_ret
      exact HW.out
    · clear cs'
      go_enter Tryz.func158, Tryz.ntmps158
      go_wp2_with fail
      refine (cg _ hbs).mono ?_
      rintro e w' ⟨rfl, rfl⟩
      clear cg
      go_wp2_with fail
      refine (ce _ k t h HT.out).mono ?_
      rintro e w1 ⟨rfl, h1, ht1⟩
      have hp1 := g1 _ ht1
      have hq1 := g2 _ ht1
      have hz := HZ.out t _ (.returned (.int .u64 n)) w1 HE.out.symm ⟨rfl, h1, ht1⟩ (fun e => absurd e HT.out)
      have HW := hide hz
      clear hz hp hq ce g1 g2 f0 f1 h1 ht1 ht
      go_wp2
      go_ret
      exact HW.out
set_option maxRecDepth 100000 in
theorem rdnum_any (b : Nat) (l : List UInt8) (most : Nat) (w : World) (h : RdAt w b l 0) (hm : most < 18446744073709551616) :
    Calls Tryz.prog 103 #[.pointer (some ⟨b, 0, none⟩), .int .u64 most] w (WholeG w b (.int .u64 0) (fun v _ => v = .int .u64 ((getF l).1 : Nat)) l (l.drop (getF l).2.1) (numE l most)) := by
  have hmf : ∀ (fn : Fn) (first cap : Array Value) (w : World), (Instr.makeFunc fn first cap).run Tryz.prog w = .ok (.func fn first cap) w := fun _ _ _ _ => rfl
  have hb1 : Below w.heap.size w ((w.alloc (.cells #[.pointer (some ⟨b, 0, none⟩)] 91)).alloc (.cells #[.int .u64 most] 22)) := ((Below.refl _ _).alloc (Nat.le_refl _) _).alloc (by simp) _
  have hlt := h.lt
  obtain ⟨w1, hw1⟩ : ∃ w1, w1 = ((w.alloc (.cells #[.pointer (some ⟨b, 0, none⟩)] 91)).alloc (.cells #[.int .u64 most] 22)) := ⟨_, rfl⟩
  have hs1 : w1.heap.size = w.heap.size + 2 := by rw [hw1]; simp
  have hp1 : w1.cell? ⟨w.heap.size, 0, none⟩ = some (.pointer (some ⟨b, 0, none⟩)) := by rw [hw1]; go_simp
  have hq1 : w1.cell? ⟨w.heap.size + 1, 0, none⟩ = some (.int .u64 most) := by rw [hw1]; go_simp
  rw [← hw1] at hb1
  have h1 := h.later hb1
  have hle := hb1.size
  have cw := num_whole b w.heap.size (w.heap.size + 1) l (l.drop (getF l).2.1) (numE l most) (fun v _ => v = .int .u64 ((getF l).1 : Nat)) w1 h1 (fun _ _ _ _ _ h => h) (fun W hb hs hR => num1_any b w.heap.size (w.heap.size + 1) l most W hR ((hb.cell (World.block_lt_of_cell? _ _ hp1)).trans hp1) ((hb.cell (World.block_lt_of_cell? _ _ hq1)).trans hq1) (by omega) (by omega) hm)
  clear h1 h
  generalize (getF l).1 = N9 at *
  generalize l.drop (getF l).2.1 = lr9 at *
  generalize numE l most = t9 at *
  have hH := hide hs1
  clear hs1
  go_enter Tryz.func103, Tryz.ntmps103
  go_wp2_with fail
  rw [← hw1]
  clear hw1
  refine cw.mono ?_
  rintro e w2 (⟨ht, v, rfl, hg, hR, hT⟩ | ⟨ht, rfl, hR, hT⟩)
  · have hz : WholeG w b (.int .u64 0) (fun v _ => v = .int .u64 (N9 : Nat)) l (lr9) (t9) (.returned v) w2 := .inl ⟨ht, v, rfl, hg, hR, Turn.ahead hb1 hT⟩
    have HZ := Lib.hid hz
    clear hz hg hR hT ht cw
    go_wp2
    go_ret
    exact HZ.out
  · have hz : WholeG w b (.int .u64 0) (fun v _ => v = .int .u64 (N9 : Nat)) l (lr9) (t9) (.returned (.int .u64 0)) w2 := .inr ⟨ht, rfl, hR, Turn.ahead hb1 hT⟩
    have HZ := Lib.hid hz
    clear hz hR hT ht cw
    go_wp2
    go_ret
    exact HZ.out
set_option maxRecDepth 100000 in
theorem rdnum_stop (b t : Nat) (l : List UInt8) (most : Nat) (w : World) (h : RdAt w b l t) (ht : t ≠ 0) :
    Calls Tryz.prog 103 #[.pointer (some ⟨b, 0, none⟩), .int .u64 most] w (ReadsP w b (.int .u64 0) l t) := by
  have hmf : ∀ (fn : Fn) (first cap : Array Value) (w : World), (Instr.makeFunc fn first cap).run Tryz.prog w = .ok (.func fn first cap) w := fun _ _ _ _ => rfl
  have hb1 : Below w.heap.size w ((w.alloc (.cells #[.pointer (some ⟨b, 0, none⟩)] 91)).alloc (.cells #[.int .u64 most] 22)) := ((Below.refl _ _).alloc (Nat.le_refl _) _).alloc (by simp) _
  have cw := fun f W (h : RdAt W b l t) => num_stop f b t l W h ht
  obtain ⟨w1, hw1⟩ : ∃ w1, w1 = ((w.alloc (.cells #[.pointer (some ⟨b, 0, none⟩)] 91)).alloc (.cells #[.int .u64 most] 22)) := ⟨_, rfl⟩
  have hlt := h.lt
  rw [← hw1] at hb1
  have h1 := h.later hb1
  clear h
  have hle := hb1.size
  go_enter Tryz.func103, Tryz.ntmps103
  go_wp2_with fail
  rw [← hw1]
  clear hw1
  refine (cw _ w1 h1).mono ?_
  rintro e w2 ⟨rfl, hR, hT⟩
  clear cw
  have hz : ReadsP w b (.int .u64 0) l t (.returned (.int .u64 0)) w2 := ⟨rfl, hR, Turn.ahead hb1 hT⟩
  have HZ := Lib.hid hz
  clear hz
  go_wp2
  go_ret
  exact HZ.out
def truE (l : List UInt8) : Nat := match l with | [] => 2 | x :: _ => if 1 < x.toNat then 5 else 0
def truV (l : List UInt8) : Bool := match l with | [] => false | x :: _ => decide (x.toNat = 1)
set_option maxRecDepth 100000 in
theorem truth1_any (b p : Nat) (l : List UInt8) (w : World) (h : RdAt w b l 0) (hp : w.cell? ⟨p, 0, none⟩ = some (.pointer (some ⟨b, 0, none⟩))) (hpb : p ≠ b) :
    Calls Tryz.prog 168 #[.pointer (some ⟨p, 0, none⟩)] w (CloP w b (fun v _ => ∃ (n : Bool), v = .bool n) (fun v _ => v = .bool (truV l)) (l.drop 1) (truE l)) := by
  obtain ⟨A, c, h0⟩ := id h
  obtain ⟨f0, f1⟩ := h0.cells
  have hbs := h0.2.1
  have hlc := h0.2.2.1
  have hcm := h0.2.2.2
  have g1 := fun W (ht : Turn w W b none) => ht.cell hp (by simpa using hpb) (by simp)
  clear h0
  rcases l with _ | ⟨x, l⟩
  · have cg := fun W => get_short A 0 c 1 W (by decide) (by decide) (by decide)
    have ce := pass_bad b [] 1 2 w h (by decide)
    go_enter Tryz.func168, Tryz.ntmps168
    go_wp2_with fail
    refine (cg _).mono ?_
    rintro e w' ⟨rfl, rfl⟩
    go_wp2_with fail
    refine ce.mono ?_
    rintro e w1 ⟨rfl, h1, ht1⟩
    have hz : CloP w b (fun v _ => ∃ (n : Bool), v = .bool n) (fun v _ => v = .bool (truV [])) (([] : List UInt8).drop 1) (truE []) (.returned (.bool false)) w1 := ⟨_, [], rfl, ⟨_, rfl⟩, h1, ht1, fun e => by cases e⟩
    have HZ := Lib.hid hz
    clear hz h1 ht1 cg ce g1
    go_wp2
    go_ret
    exact HZ.out
  · have cg := get_any A (x :: l).length c 1 (x :: l) b w hbs (Nat.le_trans hlc hcm) hlc (by decide) (by simp)
    have e1 : numL ((x :: l).take 1) = x.toNat := by simp [numL]
    rw [e1] at cg
    have cp := pass_ok b (x :: l) 0 1 w h (by simp)
    have hx := x.toNat_lt
    have hE : truE (x :: l) = if 1 < x.toNat then 5 else 0 := rfl
    have hV : truV (x :: l) = decide (x.toNat = 1) := rfl
    generalize truE (x :: l) = E at *
    generalize truV (x :: l) = V at *
    generalize x.toNat = n at *
    generalize hL : x :: l = L at *
    clear hL e1
    have cs := fun W (h : RdAt W b (L.drop 1) 0) => stop_first b (L.drop 1) 5 W h
    generalize L.drop 1 = M at *
    generalize L.length = q at *
    by_cases h5 : 1 < n
    · rw [if_pos h5] at hE
      subst hE
      have HV := hide hV
      clear hV
      go_enter Tryz.func168, Tryz.ntmps168
      go_wp2_with fail
      refine cg.mono ?_
      rintro e w' ⟨rfl, rfl⟩
      clear cg
      go_wp2_with fail
      refine cp.mono ?_
      rintro e w1 ⟨rfl, h1, ht1⟩
      have hp1 := g1 _ ht1
      clear cp g1
      go_wp2_with fail
      refine (cs _ h1).mono ?_
      rintro e w2 ⟨rfl, h2, ht2⟩
      have hz : CloP w b (fun v _ => ∃ (n : Bool), v = .bool n) (fun v _ => v = .bool V) M 5 (.returned (.bool ((n : Int) == 1))) w2 := ⟨_, M, rfl, ⟨_, rfl⟩, h2, ht1.trans ht2 (Mov.refl _ _), fun e => by cases e⟩
      have t1 : ((n : Int) == 1) = false := by simp; omega
      rw [t1] at hz
      have HZ := Lib.hid hz
      clear hz h1 ht1 h2 ht2 cs hp1
      go_wp2
      go_ret
      exact HZ.out
    · rw [if_neg h5] at hE
      subst hE
      obtain h01 | h01 : n = 0 ∨ n = 1 := by omega
      all_goals
        subst h01
        simp only [decide_true, show (decide (0 = 1)) = false from rfl] at hV
        subst hV
        go_enter Tryz.func168, Tryz.ntmps168
        go_wp2_with fail
        refine cg.mono ?_
        rintro e w' ⟨rfl, rfl⟩
        clear cg
        go_wp2_with fail
        refine cp.mono ?_
        rintro e w1 ⟨rfl, h1, ht1⟩
        have hp1 := g1 _ ht1
        clear cp g1
        have hz : ∀ V : Bool, CloP w b (fun v _ => ∃ (n : Bool), v = .bool n) (fun v _ => v = .bool V) M 0 (.returned (.bool V)) w1 := fun V => ⟨_, M, rfl, ⟨_, rfl⟩, h1, ht1, fun e => ⟨rfl, rfl⟩⟩
        have HZ := Lib.hid hz
        clear hz h1 ht1 cs hp1
        go_wp2
        go_ret
        exact HZ.out _
set_option maxRecDepth 100000 in
theorem rdtruth_any (b : Nat) (l : List UInt8)  (w : World) (h : RdAt w b l 0)  :
    Calls Tryz.prog 106 #[.pointer (some ⟨b, 0, none⟩)] w (WholeG w b (.bool false) (fun v _ => v = .bool (truV l)) l (l.drop 1) (truE l)) := by
  have hmf : ∀ (fn : Fn) (first cap : Array Value) (w : World), (Instr.makeFunc fn first cap).run Tryz.prog w = .ok (.func fn first cap) w := fun _ _ _ _ => rfl
  have hb1 : Below w.heap.size w (w.alloc (.cells #[.pointer (some ⟨b, 0, none⟩)] 91)) := (Below.refl _ _).alloc (Nat.le_refl _) _
  have hlt := h.lt
  obtain ⟨w1, hw1⟩ : ∃ w1, w1 = (w.alloc (.cells #[.pointer (some ⟨b, 0, none⟩)] 91)) := ⟨_, rfl⟩
  have hs1 : w1.heap.size = w.heap.size + 1 := by rw [hw1]; simp
  have hp1 : w1.cell? ⟨w.heap.size, 0, none⟩ = some (.pointer (some ⟨b, 0, none⟩)) := by rw [hw1]; go_simp
  rw [← hw1] at hb1
  have h1 := h.later hb1
  have hle := hb1.size
  have cw := truth_whole b w.heap.size l (l.drop 1) (truE l) (fun v _ => v = .bool (truV l)) w1 h1 (fun _ _ _ _ _ h => h) (fun W hb hs hR => truth1_any b w.heap.size l W hR ((hb.cell (World.block_lt_of_cell? _ _ hp1)).trans hp1) (by omega))
  clear h1 h
  generalize truV l = N9 at *
  generalize l.drop 1 = lr9 at *
  generalize truE l = t9 at *
  have hH := hide hs1
  clear hs1
  go_enter Tryz.func106, Tryz.ntmps106
  go_wp2_with fail
  rw [← hw1]
  clear hw1
  refine cw.mono ?_
  rintro e w2 (⟨ht, v, rfl, hg, hR, hT⟩ | ⟨ht, rfl, hR, hT⟩)
  · have hz : WholeG w b (.bool false) (fun v _ => v = .bool N9) l (lr9) (t9) (.returned v) w2 := .inl ⟨ht, v, rfl, hg, hR, Turn.ahead hb1 hT⟩
    have HZ := Lib.hid hz
    clear hz hg hR hT ht cw
    go_wp2
    go_ret
    exact HZ.out
  · have hz : WholeG w b (.bool false) (fun v _ => v = .bool N9) l (lr9) (t9) (.returned (.bool false)) w2 := .inr ⟨ht, rfl, hR, Turn.ahead hb1 hT⟩
    have HZ := Lib.hid hz
    clear hz hR hT ht cw
    go_wp2
    go_ret
    exact HZ.out
set_option maxRecDepth 100000 in
theorem rdtruth_stop (b t : Nat) (l : List UInt8)  (w : World) (h : RdAt w b l t) (ht : t ≠ 0) :
    Calls Tryz.prog 106 #[.pointer (some ⟨b, 0, none⟩)] w (ReadsP w b (.bool false) l t) := by
  have hmf : ∀ (fn : Fn) (first cap : Array Value) (w : World), (Instr.makeFunc fn first cap).run Tryz.prog w = .ok (.func fn first cap) w := fun _ _ _ _ => rfl
  have hb1 : Below w.heap.size w (w.alloc (.cells #[.pointer (some ⟨b, 0, none⟩)] 91)) := (Below.refl _ _).alloc (Nat.le_refl _) _
  have cw := fun f W (h : RdAt W b l t) => truth_stop f b t l W h ht
  obtain ⟨w1, hw1⟩ : ∃ w1, w1 = (w.alloc (.cells #[.pointer (some ⟨b, 0, none⟩)] 91)) := ⟨_, rfl⟩
  have hlt := h.lt
  rw [← hw1] at hb1
  have h1 := h.later hb1
  clear h
  have hle := hb1.size
  go_enter Tryz.func106, Tryz.ntmps106
  go_wp2_with fail
  rw [← hw1]
  clear hw1
  refine (cw _ w1 h1).mono ?_
  rintro e w2 ⟨rfl, hR, hT⟩
  clear cw
  have hz : ReadsP w b (.bool false) l t (.returned (.bool false)) w2 := ⟨rfl, hR, Turn.ahead hb1 hT⟩
  have HZ := Lib.hid hz
  clear hz
  go_wp2
  go_ret
  exact HZ.out
def Pid1P (w : World) (b : Nat) (l : List UInt8) : Ending → World → Prop := CloP w b (fun v _ => ∃ (i k : Nat), v = .agg #[.int .u16 i, .int .u32 k]) (fun v _ => v = .agg #[.int .u16 ((pidG l).1 : Nat), .int .u32 ((pidG l).2.1 : Nat)]) (l.drop (pidG l).2.2.1) (pidG l).2.2.2
theorem CloP.pid {w : World} {b : Nat} {l : List UInt8} {i k u t : Nat} {l' : List UInt8} {e : Ending} {w' : World} (h1 : pidG l = (i, k, u, t)) (h3 : ReadsP w b (.agg #[.int .u16 i, .int .u32 k]) l' t e w') (h4 : t = 0 → l' = l.drop u) :
    Pid1P w b l e w' := by
  obtain ⟨he, hR, hT⟩ := h3
  refine ⟨_, l', he, ⟨i, k, rfl⟩, ?_, hT, fun ht => ⟨?_, ?_⟩⟩
  · rw [h1]; exact hR
  · rw [h1] at ht ⊢; exact h4 ht
  · rw [h1]
set_option maxRecDepth 100000 in
theorem pid1_any (b p : Nat) (l : List UInt8) (w : World) (h : RdAt w b l 0) (hp : w.cell? ⟨p, 0, none⟩ = some (.pointer (some ⟨b, 0, none⟩))) (hpb : p ≠ b) :
    Calls Tryz.prog 163 #[.pointer (some ⟨p, 0, none⟩)] w (Pid1P w b l) := by
  have hbd := pidG_bds l
  have hlt := h.lt
  have hplt := World.block_lt_of_cell? _ _ hp
  simp only at hplt
  obtain ⟨A, c, h0⟩ := id h
  have hb1 : Below w.heap.size w (w.alloc (.cells #[.int .u16 0, .int .u32 0] 44)) := (Below.refl _ _).alloc (Nat.le_refl _) _
  have h1 := h.later hb1
  have h10 := h0.later hb1
  have hp1 := (hb1.cell hplt).trans hp
  have cg := fun W (h : Bs W b A l.length l) (hW : b ≤ W.heap.size) => gpid_any A l.length c l b W h hW h0.2.2.1 h0.2.2.2
  obtain ⟨i, k, u, t, hr⟩ : ∃ i k u t, pidG l = (i, k, u, t) := ⟨_, _, _, _, rfl⟩
  have HZ := Lib.hid (fun l' e w' => @CloP.pid w b l i k u t l' e w' hr)
  rw [hr] at hbd cg
  simp only at hbd
  obtain ⟨hi, hk, hu, -⟩ := hbd
  unfold GetsP at cg
  simp only at cg
  obtain ⟨w1, hw1⟩ : ∃ w1, w1 = (w.alloc (.cells #[.int .u16 0, .int .u32 0] 44)) := ⟨_, rfl⟩
  have b1 : Blk w1 w.heap.size #[.int .u16 0, .int .u32 0] 44 := by rw [hw1]; exact heap_alloc_new w _
  obtain ⟨f0, f1⟩ := h10.cells
  have hp1e := hp1
  rw [← hw1] at hb1 h1 h10 hp1
  have hle := hb1.size
  clear hr h0 h hp
  go_enter Tryz.func163, Tryz.ntmps163
  go_wp2_with fail
  rw [← hw1]
  clear hw1 hp1e f0 f1
  refine (cg _ h10.2.1 (Nat.le_of_lt h10.lt)).mono ?_
  rintro e w2 ⟨rfl, hb2⟩
  have h2 := h1.later hb2
  have hb12 := hb1.trans (hb2.mono hle)
  have hp2 := (hb2.cell (Nat.lt_of_lt_of_le hplt hle)).trans hp1
  have b2 := b1.later hb2
  have hle2 := hb12.size
  have hb3 : Below w2.heap.size w2 (w2.alloc (.cells #[.int .u16 i, .int .u32 k] 44)) := (Below.refl _ _).alloc (Nat.le_refl _) _
  have b3 : Blk (w2.alloc (.cells #[.int .u16 i, .int .u32 k] 44)) w2.heap.size #[.int .u16 i, .int .u32 k] 44 := heap_alloc_new w2 _
  have h3 := h2.later hb3
  have hb13 := hb12.trans (hb3.mono hle2)
  have hp3 := (hb3.cell (Nat.lt_of_lt_of_le hplt hle2)).trans hp2
  have b13 := b2.later hb3
  obtain ⟨w3, hw3⟩ : ∃ w3, w3 = (w2.alloc (.cells #[.int .u16 i, .int .u32 k] 44)) := ⟨_, rfl⟩
  have hp3e := hp3
  rw [← hw3] at b3 h3 hb13 hp3 b13
  clear cg h1 h10 hp1 b1 h2 hp2 b2 hb3
  have hsz := b3.lt
  have n1 := b13.lt
  by_cases ht : t = 0
  · subst ht
    have cp := pass_ok b l 0 u w3 h3 hu
    go_wp2_with fail
    rw [← hw3]
    refine cp.mono ?_
    rintro e w4 ⟨rfl, h4, ht4⟩
    have k1 := b13.turn ht4 (by omega) (by simp)
    have k3 := b3.turn ht4 (by omega) (by simp)
    have x4 := (k1.set_ 0 (.int .u16 i)).set_ 1 (.int .u32 k)
    have hx := (h4.other (p := ⟨w.heap.size, 0, none⟩) (by simp; omega) (.int .u16 i)).other (p := ⟨w.heap.size, 1, none⟩) (by simp; omega) (.int .u32 k)
    have htx := ((Turn.ahead hb13 ht4).setNew (p := ⟨w.heap.size, 0, none⟩) (by simp) (.int .u16 i)).setNew (p := ⟨w.heap.size, 1, none⟩) (by simp) (.int .u32 k)
    have gc0 := k1.cell 0
    have gc1 := k1.cell 1
    have gz0 := k1.frozen 0
    have gz1 := k1.frozen 1
    have gd0 := k3.cell 0
    have gd1 := k3.cell 1
    simp only [List.getElem?_toArray, List.getElem?_cons_zero, List.getElem?_cons_succ] at gc0 gc1 gd0 gd1
    have HW := Lib.hid (HZ.out (l.drop u) (.returned (.agg #[.int .u16 i, .int .u32 k])) _ ⟨rfl, hx, htx⟩ (fun _ => rfl))
    clear cp h4 ht4 k1 k3 hx htx hb13 h3 b3 b13 hp3 hw3 hp3e
    go_wp2
    generalize ((w4.setCell ⟨w.heap.size, 0, none⟩ (.int .u16 i)).setCell ⟨w.heap.size, 1, none⟩ (.int .u32 k)) = w5 at x4 HW ⊢
    have c40 : w5.cell? ⟨w.heap.size, 0, none⟩ = some (.int .u16 i) := x4.cell 0
    have c41 : w5.cell? ⟨w.heap.size, 1, none⟩ = some (.int .u32 k) := x4.cell 1
    exact bodyPost_ret (v := .agg #[.int .u16 i, .int .u32 k]) (by simp [results, Tryz.results163, go_sem, c40, c41]) rfl HW.out
  · have cp := pass_bad b l u t w3 h3 ht
    go_wp2_with fail
    rw [← hw3]
    refine cp.mono ?_
    rintro e w4 ⟨rfl, h4, ht4⟩
    have k1 := b13.turn ht4 (by omega) (by simp)
    have k3 := b3.turn ht4 (by omega) (by simp)
    have x4 := (k1.set_ 0 (.int .u16 i)).set_ 1 (.int .u32 k)
    have hx := (h4.other (p := ⟨w.heap.size, 0, none⟩) (by simp; omega) (.int .u16 i)).other (p := ⟨w.heap.size, 1, none⟩) (by simp; omega) (.int .u32 k)
    have htx := ((Turn.ahead hb13 ht4).setNew (p := ⟨w.heap.size, 0, none⟩) (by simp) (.int .u16 i)).setNew (p := ⟨w.heap.size, 1, none⟩) (by simp) (.int .u32 k)
    have gc0 := k1.cell 0
    have gc1 := k1.cell 1
    have gz0 := k1.frozen 0
    have gz1 := k1.frozen 1
    have gd0 := k3.cell 0
    have gd1 := k3.cell 1
    simp only [List.getElem?_toArray, List.getElem?_cons_zero, List.getElem?_cons_succ] at gc0 gc1 gd0 gd1
    have HW := Lib.hid (HZ.out l (.returned (.agg #[.int .u16 i, .int .u32 k])) _ ⟨rfl, hx, htx⟩ (fun e => absurd e ht))
    clear cp h4 ht4 k1 k3 hx htx hb13 h3 b3 b13 hp3 hw3 hp3e ht
    go_wp2
    generalize ((w4.setCell ⟨w.heap.size, 0, none⟩ (.int .u16 i)).setCell ⟨w.heap.size, 1, none⟩ (.int .u32 k)) = w5 at x4 HW ⊢
    have c40 : w5.cell? ⟨w.heap.size, 0, none⟩ = some (.int .u16 i) := x4.cell 0
    have c41 : w5.cell? ⟨w.heap.size, 1, none⟩ = some (.int .u32 k) := x4.cell 1
    exact bodyPost_ret (v := .agg #[.int .u16 i, .int .u32 k]) (by simp [results, Tryz.results163, go_sem, c40, c41]) rfl HW.out
set_option maxRecDepth 100000 in
theorem rdpid_any (b : Nat) (l : List UInt8)  (w : World) (h : RdAt w b l 0)  :
    Calls Tryz.prog 104 #[.pointer (some ⟨b, 0, none⟩)] w (WholeG w b (.agg #[.int .u16 0, .int .u32 0]) (fun v _ => v = .agg #[.int .u16 ((pidG l).1 : Nat), .int .u32 ((pidG l).2.1 : Nat)]) l (l.drop (pidG l).2.2.1) ((pidG l).2.2.2)) := by
  have hmf : ∀ (fn : Fn) (first cap : Array Value) (w : World), (Instr.makeFunc fn first cap).run Tryz.prog w = .ok (.func fn first cap) w := fun _ _ _ _ => rfl
  have hb1 : Below w.heap.size w ((w.alloc (.cells #[.pointer (some ⟨b, 0, none⟩)] 91)).alloc (.cells #[.int .u16 0, .int .u32 0] 44)) := ((Below.refl _ _).alloc (Nat.le_refl _) _).alloc (by simp) _
  have hlt := h.lt
  obtain ⟨w1, hw1⟩ : ∃ w1, w1 = ((w.alloc (.cells #[.pointer (some ⟨b, 0, none⟩)] 91)).alloc (.cells #[.int .u16 0, .int .u32 0] 44)) := ⟨_, rfl⟩
  have hs1 : w1.heap.size = w.heap.size + 2 := by rw [hw1]; simp
  have hp1 : w1.cell? ⟨w.heap.size, 0, none⟩ = some (.pointer (some ⟨b, 0, none⟩)) := by rw [hw1]; go_simp
  rw [← hw1] at hb1
  have h1 := h.later hb1
  have hle := hb1.size
  have b4 : Blk w1 (w.heap.size + 1) #[.int .u16 0, .int .u32 0] 44 := by
    rw [hw1]
    have := heap_alloc_new (w.alloc (.cells #[.pointer (some ⟨b, 0, none⟩)] 91)) (.cells #[.int .u16 0, .int .u32 0] 44)
    simpa [Blk] using this
  have cw := pid_whole b w.heap.size l (l.drop (pidG l).2.2.1) ((pidG l).2.2.2) (fun v _ => v = .agg #[.int .u16 ((pidG l).1 : Nat), .int .u32 ((pidG l).2.1 : Nat)]) w1 h1 (fun _ _ _ _ _ h => h) (fun W hb hs hR => pid1_any b w.heap.size l W hR ((hb.cell (World.block_lt_of_cell? _ _ hp1)).trans hp1) (by omega))
  clear h1 h
  generalize (pidG l).1 = i9 at *
  generalize (pidG l).2.1 = k9 at *
  generalize l.drop (pidG l).2.2.1 = lr9 at *
  generalize (pidG l).2.2.2 = t9 at *
  have hH := hide hs1
  clear hs1
  go_enter Tryz.func104, Tryz.ntmps104
  go_wp2_with fail
  rw [← hw1]
  clear hw1
  refine cw.mono ?_
  rintro e w2 (⟨ht, v, rfl, hg, hR, hT⟩ | ⟨ht, rfl, hR, hT⟩)
  · subst hg
    have k4 := b4.turn hT (by omega) (by simp)
    have x4 := ((k4.set_ 0 (.int .u16 i9)).set_ 1 (.int .u32 k9))
    have hx := ((hR.other (p := ⟨w.heap.size + 1, 0, none⟩) (by simp; omega) (.int .u16 i9)).other (p := ⟨w.heap.size + 1, 1, none⟩) (by simp; omega) (.int .u32 k9))
    have htx := (((Turn.ahead hb1 hT).setNew (p := ⟨w.heap.size + 1, 0, none⟩) (by simp) (.int .u16 i9)).setNew (p := ⟨w.heap.size + 1, 1, none⟩) (by simp) (.int .u32 k9))
    have gc0 := k4.cell 0
    have gz0 := k4.frozen 0
    have gc1 := k4.cell 1
    have gz1 := k4.frozen 1
    simp only [List.getElem?_toArray, List.getElem?_cons_zero, List.getElem?_cons_succ] at gc0 gc1
    have hz : WholeG w b (.agg #[.int .u16 0, .int .u32 0]) (fun v _ => v = .agg #[.int .u16 (i9 : Nat), .int .u32 (k9 : Nat)]) l (lr9) (t9) (.returned (.agg #[.int .u16 i9, .int .u32 k9])) ((w2.setCell ⟨w.heap.size + 1, 0, none⟩ (.int .u16 i9)).setCell ⟨w.heap.size + 1, 1, none⟩ (.int .u32 k9)) := .inl ⟨ht, _, rfl, rfl, hx, htx⟩
    have HZ := Lib.hid hz
    clear hz hx htx hR hT k4 b4 ht cw
    go_wp2
    generalize ((w2.setCell ⟨w.heap.size + 1, 0, none⟩ (.int .u16 i9)).setCell ⟨w.heap.size + 1, 1, none⟩ (.int .u32 k9)) = w3 at x4 HZ ⊢
    have c40 : w3.cell? ⟨w.heap.size + 1, 0, none⟩ = some (.int .u16 i9) := x4.cell 0
    have c41 : w3.cell? ⟨w.heap.size + 1, 1, none⟩ = some (.int .u32 k9) := x4.cell 1
    exact bodyPost_ret (v := .agg #[.int .u16 i9, .int .u32 k9]) (by simp [results, Tryz.results104, go_sem, c40, c41]) rfl HZ.out
  · have k4 := b4.turn hT (by omega) (by simp)
    have x4 := ((k4.set_ 0 (.int .u16 0)).set_ 1 (.int .u32 0))
    have hx := ((hR.other (p := ⟨w.heap.size + 1, 0, none⟩) (by simp; omega) (.int .u16 0)).other (p := ⟨w.heap.size + 1, 1, none⟩) (by simp; omega) (.int .u32 0))
    have htx := (((Turn.ahead hb1 hT).setNew (p := ⟨w.heap.size + 1, 0, none⟩) (by simp) (.int .u16 0)).setNew (p := ⟨w.heap.size + 1, 1, none⟩) (by simp) (.int .u32 0))
    have gc0 := k4.cell 0
    have gz0 := k4.frozen 0
    have gc1 := k4.cell 1
    have gz1 := k4.frozen 1
    simp only [List.getElem?_toArray, List.getElem?_cons_zero, List.getElem?_cons_succ] at gc0 gc1
    have hz : WholeG w b (.agg #[.int .u16 0, .int .u32 0]) (fun v _ => v = .agg #[.int .u16 (i9 : Nat), .int .u32 (k9 : Nat)]) l (lr9) (t9) (.returned (.agg #[.int .u16 0, .int .u32 0])) ((w2.setCell ⟨w.heap.size + 1, 0, none⟩ (.int .u16 0)).setCell ⟨w.heap.size + 1, 1, none⟩ (.int .u32 0)) := .inr ⟨ht, rfl, hx, htx⟩
    have HZ := Lib.hid hz
    clear hz hx htx hR hT k4 b4 ht cw
    go_wp2
    generalize ((w2.setCell ⟨w.heap.size + 1, 0, none⟩ (.int .u16 0)).setCell ⟨w.heap.size + 1, 1, none⟩ (.int .u32 0)) = w3 at x4 HZ ⊢
    have c40 : w3.cell? ⟨w.heap.size + 1, 0, none⟩ = some (.int .u16 0) := x4.cell 0
    have c41 : w3.cell? ⟨w.heap.size + 1, 1, none⟩ = some (.int .u32 0) := x4.cell 1
    exact bodyPost_ret (v := .agg #[.int .u16 0, .int .u32 0]) (by simp [results, Tryz.results104, go_sem, c40, c41]) rfl HZ.out
set_option maxRecDepth 100000 in
theorem rdpid_stop (b t : Nat) (l : List UInt8)  (w : World) (h : RdAt w b l t) (ht : t ≠ 0) :
    Calls Tryz.prog 104 #[.pointer (some ⟨b, 0, none⟩)] w (ReadsP w b (.agg #[.int .u16 0, .int .u32 0]) l t) := by
  have hmf : ∀ (fn : Fn) (first cap : Array Value) (w : World), (Instr.makeFunc fn first cap).run Tryz.prog w = .ok (.func fn first cap) w := fun _ _ _ _ => rfl
  have hb1 : Below w.heap.size w ((w.alloc (.cells #[.pointer (some ⟨b, 0, none⟩)] 91)).alloc (.cells #[.int .u16 0, .int .u32 0] 44)) := ((Below.refl _ _).alloc (Nat.le_refl _) _).alloc (by simp) _
  have cw := fun f W (h : RdAt W b l t) => pid_stop f b t l W h ht
  obtain ⟨w1, hw1⟩ : ∃ w1, w1 = ((w.alloc (.cells #[.pointer (some ⟨b, 0, none⟩)] 91)).alloc (.cells #[.int .u16 0, .int .u32 0] 44)) := ⟨_, rfl⟩
  have b4 : Blk w1 (w.heap.size + 1) #[.int .u16 0, .int .u32 0] 44 := by
    rw [hw1]
    have := heap_alloc_new (w.alloc (.cells #[.pointer (some ⟨b, 0, none⟩)] 91)) (.cells #[.int .u16 0, .int .u32 0] 44)
    simpa [Blk] using this
  have hlt := h.lt
  rw [← hw1] at hb1
  have h1 := h.later hb1
  clear h
  have hle := hb1.size
  go_enter Tryz.func104, Tryz.ntmps104
  go_wp2_with fail
  rw [← hw1]
  clear hw1
  refine (cw _ w1 h1).mono ?_
  rintro e w2 ⟨rfl, hR, hT⟩
  clear cw
  have k4 := b4.turn hT (by omega) (by simp)
  have x4 := ((k4.set_ 0 (.int .u16 0)).set_ 1 (.int .u32 0))
  have htx := (((Turn.ahead hb1 hT).setNew (p := ⟨w.heap.size + 1, 0, none⟩) (by simp) (.int .u16 0)).setNew (p := ⟨w.heap.size + 1, 1, none⟩) (by simp) (.int .u32 0))
  have hx := ((hR.other (p := ⟨w.heap.size + 1, 0, none⟩) (by simp; omega) (.int .u16 0)).other (p := ⟨w.heap.size + 1, 1, none⟩) (by simp; omega) (.int .u32 0))
  have gc0 := k4.cell 0
  have gz0 := k4.frozen 0
  have gc1 := k4.cell 1
  have gz1 := k4.frozen 1
  simp only [List.getElem?_toArray, List.getElem?_cons_zero, List.getElem?_cons_succ] at gc0 gc1
  clear k4 b4
  go_wp2
  generalize ((w2.setCell ⟨w.heap.size + 1, 0, none⟩ (.int .u16 0)).setCell ⟨w.heap.size + 1, 1, none⟩ (.int .u32 0)) = w3 at x4 htx hx ⊢
  have c40 : w3.cell? ⟨w.heap.size + 1, 0, none⟩ = some (.int .u16 0) := x4.cell 0
  have c41 : w3.cell? ⟨w.heap.size + 1, 1, none⟩ = some (.int .u32 0) := x4.cell 1
  exact bodyPost_ret (v := .agg #[.int .u16 0, .int .u32 0]) (by simp [results, Tryz.results104, go_sem, c40, c41]) rfl ⟨rfl, hx, htx⟩
end Go.Proofs.YtjmkecaljkcoiaaGreatDoor
