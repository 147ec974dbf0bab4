import Derived.Deep.RegionHeld
import Derived.Test.YtjmkecaljkcoiaaGreatDoorQView4
import Derived.Test.YtjmkecaljkcoiaaGreatDoorQMask4
namespace Go.Proofs.YtjmkecaljkcoiaaGreatDoor
open Go.RowKit Go.Maps
set_option linter.unusedVariables false
set_option linter.unusedSimpArgs false
theorem info_partsV {P : Program} {T : TypeId} {z : Value} {k b : Nat} (h : (P.info? T).map (fun i => (i.zero, i.size, i.bytes)) = some (some z, k, b)) : ∃ i, P.info? T = some i ∧ i.zero = some z ∧ i.size = k ∧ i.bytes = b := by
  cases hq : P.info? T with
  | none => simp [hq] at h
  | some i => simp [hq] at h; exact ⟨i, rfl, h.1, h.2.1, h.2.2⟩
theorem grown_set (w : World) (a : Addr) (u : Value) : w.grownBy (w.setCell a u) (some a.block) := ⟨rfl, rfl, rfl, by simp, fun i hi hne => Below.heap_setCell w a u i (fun e => hne (by rw [e]))⟩
theorem OwnE.set_far {α : Type} {enc : α → List Value} {k : Nat} {T : TypeId} {w : World} {base n : Nat} {v : Value} {l : List α} (h : OwnE T enc k w base v n l) {a : Addr} (u : Value) (ha : a.block < base) : OwnE T enc k (w.setCell a u) base v n l := h.grown (grown_set w a u) ha
theorem add_z (a : Addr) : a.add (0 * 2) = a := by unfold Addr.add; simp
theorem cell_far (w : World) (p a : Addr) (v : Value) (h : p.block ≠ a.block) : (w.setCell p v).cell? a = w.cell? a := World.cell?_setCell_far w p a v h
theorem bool_of (P : Prop) : ∃ t : Bool, t = true ↔ P := by
  by_cases h : P
  · exact ⟨true, by simp [h]⟩
  · exact ⟨false, by simp [h]⟩
theorem fold_new : ∀ (l acc : List Pr), l.Nodup → (∀ p ∈ l, p ∉ acc) → l.foldl dedS acc = acc ++ l
  | [], acc, _, _ => by simp
  | x :: l, acc, hn, h => by
    rw [List.nodup_cons] at hn
    rw [List.foldl_cons, dedS, if_neg (h x (by simp)), fold_new l _ hn.2 (fun p hp => by
      rw [List.mem_append, List.mem_singleton]
      rintro (h' | rfl)
      · exact h p (by simp [hp]) h'
      · exact hn.1 hp)]
    simp
theorem dedup_self {l : List Pr} (h : l.Nodup) : dedup l = l := by
  have := fold_new l [] h (by simp)
  simpa [dedup] using this
theorem PlaceP.size {w : World} {b n : Nat} {l : List Pr} (h : PlaceP w b n l) (ty : TypeId) : (Builtin.len_ #[124] ty #[.map (some b)]).run Tryz.prog w = .ok (.int .i64 ((dedup l).length : Int)) w := by
  obtain ⟨D, hD, _, hs⟩ := h
  rw [hD.len Tryz.underlying124 ty, hs]
structure PlTo (mem : List Pr) (lvs : List (List Pr)) (k a b : Nat) : Prop where
  lo : a = rkA mem (lvs.take k).flatten
  hi : b = rkB mem (lvs.take k).flatten
theorem PlTo.start (mem : List Pr) (lvs : List (List Pr)) : PlTo mem lvs 0 0 0 := ⟨by simp [(rk_nil mem).1], by simp [(rk_nil mem).2]⟩
theorem PlTo.la {mem : List Pr} {lvs : List (List Pr)} {k a b : Nat} (h : PlTo mem lvs k a b) : a < 18446744073709551616 := by rw [h.lo]; exact rkA_lt _ _
theorem PlTo.lb {mem : List Pr} {lvs : List (List Pr)} {k a b : Nat} (h : PlTo mem lvs k a b) : b < 18446744073709551616 := by rw [h.hi]; exact rkB_lt _ _
theorem PlTo.step {mem : List Pr} {lvs : List (List Pr)} {k a b : Nat} (h : PlTo mem lvs k a b) (hk : k < lvs.length) : PlTo mem lvs (k + 1) (a ||| rkA mem lvs[k]) (b ||| rkB mem lvs[k]) := by
  have := rk_or mem (lvs.take k).flatten lvs[k]
  rw [← flatten_take hk] at this
  exact ⟨by rw [this.1, h.lo], by rw [this.2, h.hi]⟩
theorem PlTo.apart {mem : List Pr} {lvs : List (List Pr)} {k a b : Nat} (h : PlTo mem lvs k a b) (ht : LvsTo mem lvs k) (hk : k < lvs.length) (hr : RiseP mem lvs[k]) (hs : mem.length ≤ 128) :
    (a &&& rkA mem lvs[k] = 0 ∧ b &&& rkB mem lvs[k] = 0) ↔ ∀ p ∈ (lvs.take k).flatten, p ∉ lvs[k] := by
  rw [h.lo, h.hi]
  exact rk_apart mem _ _ ht.mem hr.1 hs
theorem PlTo.done {mem : List Pr} {lvs : List (List Pr)} {k a b : Nat} (h : PlTo mem lvs k a b) (ht : LvsTo mem lvs k) (hk : lvs.length ≤ k) (hn : mem.Nodup) (hs : mem.length ≤ 128) :
    LeavesP mem lvs ↔ (a = fstA mem.length ∧ b = fstB mem.length) ∧ RiseP mem (firstsP (lvs.take k)) := by
  rw [ht.done hk, h.lo, h.hi, List.take_of_length_le hk]
  have hm := ht.mem
  rw [List.take_of_length_le hk] at hm
  rw [rk_all mem lvs.flatten hn hm hs]
theorem firsts_step {lvs : List (List Pr)} {k : Nat} (hk : k < lvs.length) : firstsP (lvs.take (k + 1)) = firstsP (lvs.take k) ++ [lvs[k].headD default] := by
  rw [List.take_succ_eq_append_getElem hk, firstsP_snoc]
theorem head_at {l : List Pr} (h : 0 < l.length) : l.headD default = l[0] := by
  cases l with
  | nil => simp at h
  | cons x l => rfl
set_option maxRecDepth 100000 in
set_option maxHeartbeats 1000000 in
theorem mbl_any (b N : Nat) (mem : List Pr) (A : Option Addr) (n c : Nat) (q : List Lf) (B : Nat) (w : World) (t : Bool) (hp : PlaceP w b N mem) (hA : Es lfC w B A n q) (hin : ∀ y ∈ q, LfIn w B y ∧ y.m ≤ 40) (hB : B ≤ w.heap.size) (hn : n ≤ 40) (hmn : mem.Nodup) (hs : mem.length ≤ 128) (ht : t = true ↔ LeavesP mem (q.map Lf.l)) :
    Calls Tryz.prog 82 #[.map (some b), .slice A n c] w fun e w' => e = .returned (.bool t) ∧ Below w.heap.size w w' := by
  have hlen := hA.len
  obtain ⟨lvs, hlv⟩ : ∃ lvs, lvs = q.map Lf.l := ⟨_, rfl⟩
  rw [← hlv] at ht
  have hll : lvs.length = n := by rw [hlv, List.length_map, hlen]
  have hat : ∀ k (h1 : k < q.length) (h2 : k < lvs.length), lvs[k] = q[k].l := fun k h1 h2 => by simp [hlv]
  have HL := hide (And.intro hlen hll)
  have HT := hide ht
  have HAT := hide hat
  have HIN := hide hin
  have h0 := LvsTo.start mem lvs
  have h1 := PlTo.start mem lvs
  have h2 : firstsP (lvs.take 0) = [] := by simp [firstsP]
  have m0 := MAt.mk_ w 0 0
  have hbw : Below w.heap.size w (w.alloc (.cells #[.int .u64 0, .int .u64 0] 164)) := (Below.refl _ _).alloc (Nat.le_refl _) _
  obtain ⟨i0, hi, hz0, hz1, hz2⟩ := info_partsV info_pid
  clear hlen hlv ht hll hat hin
  go_enter Tryz.func82, Tryz.ntmps82
  go_wp2
  go_loopw [6, 12] (fun v i wr => ∃ (k x y : Nat) (A' : Option Addr) (c' : Nat) (fs : List Pr), k ≤ n ∧ i = .int .i64 k ∧ v = .slice A' k c' ∧ LvsTo mem lvs k ∧ PlTo mem lvs k x y ∧ Hid (fs = firstsP (lvs.take k)) ∧ MAt wr w.heap.size x y ∧ OwnP wr (w.heap.size + 1) (.slice A' k c') k fs ∧ Below w.heap.size w wr ∧ w.heap.size + 1 ≤ wr.heap.size) (fun _ i _ => n - (intOf i).toNat)
  case atStart => exact ⟨0, 0, 0, none, 0, [], Nat.zero_le _, rfl, rfl, h0, h1, hide h2.symm, m0, OwnE.nil_ _ _, hbw, by simp⟩
  case round =>
    obtain ⟨k, x, y, A', c', fs, hk, rfl, rfl, hto, hpl, HF, q0, hown, hb, hsz⟩ := hrel
    clear h0 h1 h2 m0 hbw
    have la := hpl.la
    have lb := hpl.lb
    by_cases hlt : k < n
    · have hbB := hb.mono hB
      obtain ⟨ad, hl, rfl, hbl, hc⟩ := (hA.below hbB).at_ lfOk hlt
      have hlk : k < lvs.length := by rw [HL.out.2]; exact hlt
      have hy := HIN.out q[k] (List.getElem_mem hl)
      have hyl := HAT.out k hl hlk
      have s1 := fun h => LvsTo.empty (mem := mem) hlk h
      have s2 := fun h => LvsTo.falls (mem := mem) hlk h
      have s3 := fun h => hto.twice hlk h
      have s4 := fun h1 h2 h3 => hto.step hlk h1 h2 h3
      have s5 := hpl.step hlk
      have s6 := fun h => hpl.apart hto hlk h hs
      have s7 := firsts_step hlk
      rw [hyl] at s1 s2 s3 s4 s5 s6 s7
      obtain ⟨z, hzq⟩ : ∃ z, z = q[k] := ⟨_, rfl⟩
      rw [← hzq] at hc hy s1 s2 s3 s4 s5 s6 s7
      have c0 := lf_at hc
      clear hzq hc hyl hto hpl
      obtain ⟨hyin, hy40⟩ := hy
      have hyes := hyin.es.below hbB
      have hylen := hyin.es.len
      by_cases hzm : z.m = 0
      · have hf := not_of_iff HT.out (s1 (List.eq_nil_of_length_eq_zero (by rw [hylen]; exact hzm)))
        have HFF := hide hf
        have u1 : ((z.m : Int) == 0) = true := by rw [hzm]; rfl
        clear s1 s2 s3 s4 s5 s6 s7 hf hzm hylen
        go_wp2
        go_ret
        exact ⟨ret_bool HFF.out.symm, hb⟩
      · have u1 : ((z.m : Int) == 0) = false := by simp only [beq_eq_false_iff_ne, ne_eq]; omega
        obtain ⟨tr, htr⟩ := bool_of (RiseP mem z.l)
        have cr := rise_any b N mem z.A z.m z.c z.l B wr tr (hp.later hb) hyes (Nat.le_trans hB hb.size) (by omega) htr
        have HS := hide (And.intro s1 (And.intro s2 (And.intro s3 (And.intro s4 (And.intro s5 (And.intro s6 (And.intro s7 (And.intro htr hylen))))))))
        clear s1 s2 s3 s4 s5 s6 s7 htr hylen
        cases tr
        · have hf := not_of_iff HT.out (HS.out.2.1 (fun h => by have := HS.out.2.2.2.2.2.2.2.1.2 h; cases this))
          have HFF := hide hf
          clear hf
          go_wp2_with fail
          refine cr.mono ?_
          rintro e w1 ⟨rfl, hb1⟩
          have hb2 := hb.trans (hb1.mono hb.size)
          go_wp2
          go_ret
          exact ⟨ret_bool HFF.out.symm, hb2⟩
        · have hri : RiseP mem z.l := HS.out.2.2.2.2.2.2.2.1.1 rfl
          have cm := fun W h1 h2 h3 => maskOf_any b N mem z.A z.m z.c z.l B W h1 h2 h3 (by omega) hs
          have ca := fun W => mand_any x y (rkA mem z.l) (rkB mem z.l) W la lb (rkA_lt _ _) (rkB_lt _ _)
          have co := fun W => mor_any x y (rkA mem z.l) (rkB mem z.l) W la lb (rkA_lt _ _) (rkB_lt _ _)
          have hq1 := fun W => mask_eql (x &&& rkA mem z.l) (y &&& rkB mem z.l) 0 0 (and_lt64 _ la) (and_lt64 _ lb) (by decide) (by decide) W
          have s5 := HS.out.2.2.2.2.1
          have s6 := HS.out.2.2.2.2.2.1 hri
          generalize rkA mem z.l = hx at *
          generalize rkB mem z.l = hy at *
          generalize x &&& hx = ax at *
          generalize y &&& hy = ay at *
          generalize x ||| hx = ox at *
          generalize y ||| hy = oy at *
          obtain ⟨u, hu⟩ : ∃ u, u = decide (ax = 0 ∧ ay = 0) := ⟨_, rfl⟩
          rw [← hu] at hq1
          have hq2 : ∀ W, (Op.equalIn 10000 164 (.agg #[.int .u64 ax, .int .u64 ay]) (.agg #[.int .u64 0, .int .u64 0])).run Tryz.prog W = .ok u W := hq1
          have hapt : u = true ↔ ∀ p ∈ (lvs.take k).flatten, p ∉ z.l := by rw [hu, decide_eq_true_eq]; exact s6
          have HA := hide (And.intro hri (And.intro s5 hapt))
          clear s5 s6 hu hapt hq1 hri
          go_wp2_with fail
          refine cr.mono ?_
          rintro e w1 ⟨rfl, hb1⟩
          have hb2 := hb.trans (hb1.mono hb.size)
          have p1 := q0.later hb1
          have o1 := hown.later hb1
          have cm := cm w1 ((hp.later hb).later hb1) (hyes.below (hb1.mono (Nat.le_trans hB hb.size))) (Nat.le_trans hB hb2.size)
          clear hb hb1 q0 hown cr c0
          go_wp2_with fail
          refine cm.mono ?_
          rintro e w2 ⟨rfl, hb1⟩
          have hb3 := hb2.trans (hb1.mono hb2.size)
          have p2 := p1.later hb1
          have o2 := o1.later hb1
          have hz2' := hb3.size
          clear hb2 hb1 p1 o1 cm
          have p3 := p2.alloc (.cells #[.int .u64 hx, .int .u64 hy] 164)
          have r3 := MAt.mk_ w2 hx hy
          have o3 := o2.alloc (.cells #[.int .u64 hx, .int .u64 hy] 164)
          have hb4 := hb3.alloc hb3.size (.cells #[.int .u64 hx, .int .u64 hy] 164)
          have d0 := p3.c0
          have d1 := p3.c1
          have d2 := r3.c0
          have d3 := r3.c1
          have d4 := p3.lt
          have d5 := r3.lt
          clear p2 o2 hb3
          go_wp2_with fail
          refine (ca _).mono ?_
          rintro e w3 ⟨rfl, hb1⟩
          have hb5 := hb4.trans (hb1.mono hb4.size)
          have p4 := p3.later hb1
          have r4 := r3.later hb1
          have o4 := o3.later hb1
          clear hb4 hb1 p3 r3 o3 d0 d1 d2 d3 d4 d5 ca cm
          cases u
          · have hf := not_of_iff HT.out (HS.out.2.2.1 (fun h => by have := HA.out.2.2.2 h; cases this))
            have HFF := hide hf
            clear hf
            go_wp2
            go_ret
            exact ⟨ret_bool HFF.out.symm, hb5⟩
          · have d0 := p4.c0
            have d1 := p4.c1
            have d2 := r4.c0
            have d3 := r4.c1
            have d4 := p4.lt
            have d5 := r4.lt
            go_wp2_with fail
            refine (co _).mono ?_
            rintro e w4 ⟨rfl, hb1⟩
            have hb6 := hb5.trans (hb1.mono hb5.size)
            have p5 := p4.later hb1
            have o5 := o4.later hb1
            clear hb5 hb1 p4 r4 o4 d0 d1 d2 d3 d4 d5 co hq2
            have d0 := p5.c0
            have d1 := p5.c1
            have d2 := p5.fz 0
            have d3 := p5.fz 1
            have d4 := p5.lt
            have p6 := p5.set_ ox oy
            have o6 := (o5.set_far (a := ⟨w.heap.size, 0, none⟩) (.int .u64 ox) (Nat.lt_succ_self _)).set_far (a := ⟨w.heap.size, 1, none⟩) (.int .u64 oy) (Nat.lt_succ_self _)
            have hb7 : Below w.heap.size w ((w4.setCell ⟨w.heap.size, 0, none⟩ (.int .u64 ox)).setCell ⟨w.heap.size, 1, none⟩ (.int .u64 oy)) := (hb6.setCell (by simp) _).setCell (by simp) _
            have hsz7 : w.heap.size + 1 ≤ ((w4.setCell ⟨w.heap.size, 0, none⟩ (.int .u64 ox)).setCell ⟨w.heap.size, 1, none⟩ (.int .u64 oy)).heap.size := by simp; omega
            obtain ⟨ad2, hl2, had2, hbl2, hc2⟩ := (hyin.es.below (hb6.mono hB)).at_ prOk (show 0 < z.m by omega)
            have hne1 : ¬ ad2.block = w.heap.size := by omega
            have hne2 : ad2.block < w4.heap.size := by omega
            obtain ⟨za, zm, zc, zl⟩ := z
            dsimp only at *
            subst had2
            have hhead := head_at hl2
            obtain ⟨f0, hf0⟩ : ∃ f0, f0 = zl[0] := ⟨_, rfl⟩
            rw [← hf0] at hc2 hhead
            obtain ⟨g0, g1⟩ := pr_at hc2
            rw [add_z] at g0 g1
            have g2 : ((w4.setCell ⟨w.heap.size, 0, none⟩ (.int .u64 ox)).setCell ⟨w.heap.size, 1, none⟩ (.int .u64 oy)).cell? ad2 = some (.int .u16 f0.i) := by
              rw [cell_far _ _ _ _ (by show w.heap.size ≠ ad2.block; omega), cell_far _ _ _ _ (by show w.heap.size ≠ ad2.block; omega)]; exact g0
            have g3 : ((w4.setCell ⟨w.heap.size, 0, none⟩ (.int .u64 ox)).setCell ⟨w.heap.size, 1, none⟩ (.int .u64 oy)).cell? ⟨ad2.block, ad2.off + 1, none⟩ = some (.int .u32 f0.k) := by
              rw [cell_far _ _ _ _ (by show w.heap.size ≠ ad2.block; omega), cell_far _ _ _ _ (by show w.heap.size ≠ ad2.block; omega)]; exact g1
            have HH := hide hhead
            clear hhead hf0 hc2 hb6 o5 p5
            have HO := hide o6
            have HP := hide p6
            have HB := hide hb7
            clear o6 p6 hb7
            have z1 : (0 : Int) < (zm : Int) := by omega
            have hlit := es_lit ((w4.setCell ⟨w.heap.size, 0, none⟩ (.int .u64 ox)).setCell ⟨w.heap.size, 1, none⟩ (.int .u64 oy)) f0 44
            rw [show ((w4.setCell ⟨w.heap.size, 0, none⟩ (.int .u64 ox)).setCell ⟨w.heap.size, 1, none⟩ (.int .u64 oy)).heap.size = w4.heap.size from by simp] at hlit
            go_wp2_with (at_builtin; refine wp_append_e _ rfl (.tmp 36) (.tmp 40) 23 rfl 44 i0 _ 8 Tryz.underlying23 hi hz0 hz1 hz2 rfl prOk (w.heap.size + 1) k _ fs rfl (HO.out.alloc _) (w4.heap.size + 1) _ 1 1 [f0] rfl hlit (by unfold maxLen; omega) (by omega) w.heap.size w (HB.out.alloc HB.out.size _) (Nat.le_succ _) (by simp; omega) ?_; intro A2 c2 w5 r1 r2 r3 r4; refine Hid.out ?_)
            have r5 : (((w4.setCell ⟨w.heap.size, 0, none⟩ (.int .u64 ox)).setCell ⟨w.heap.size, 1, none⟩ (.int .u64 oy)).alloc (.cells #[.int .u16 f0.i, .int .u32 f0.k] 44)).grownBy w5 (Value.slice A' k c').ownBlock := r4
            have r6 : OwnP w5 (w.heap.size + 1) (.slice A2 (k + 1) c2) (k + 1) (fs ++ [f0]) := r1
            have r7 : MAt w5 w.heap.size ox oy := by
              have h7 := HP.out.alloc (.cells #[.int .u16 f0.i, .int .u32 f0.k] 44)
              exact (r5.block w.heap.size h7.lt (fun e => by have := HO.out.lt _ e.symm; omega)).trans h7
            have r8 : w.heap.size + 1 ≤ w5.heap.size := by simp at r3; omega
            have r9 : fs ++ [f0] = firstsP (lvs.take (k + 1)) := by rw [HS.out.2.2.2.2.2.2.1, ← HF.out, HH.out]
            have hne : zl ≠ [] := fun e => by rw [e] at hl2; simp at hl2
            have hst := HS.out.2.2.2.1 hne HA.out.1 (HA.out.2.2.1 trivial)
            have HR := hide (And.intro hst (And.intro HA.out.2.1 (And.intro r9 (And.intro r7 (And.intro r6 (And.intro r2 r8))))))
            refine Lib.hid ?_
            clear r1 r2 r3 r4 r5 r6 r7 r8 r9 hst hne HO HP HB HH HS HA g0 g1 g2 g3 d0 d1 d2 d3 d4 hlit hsz7
            go_wp2_with fail
            go_roundw
            case rel => exact ⟨k + 1, ox, oy, A2, c2, fs ++ [f0], by omega, by go_num, rfl, HR.out.1, HR.out.2.1, hide HR.out.2.2.1, HR.out.2.2.2.1, HR.out.2.2.2.2.1, HR.out.2.2.2.2.2.1, HR.out.2.2.2.2.2.2⟩
            case measure => simp [intOf]; omega
    · obtain rfl : k = n := by omega
      have hd := hpl.done hto (by rw [HL.out.2]; exact Nat.le_refl _) hmn hs
      rw [← HF.out] at hd
      have hlm : (dedup mem).length = mem.length := by rw [dedup_self hmn]
      have hpr := hp.later hb
      have hes := hown.es prOk
      obtain ⟨tr, htr⟩ := bool_of (RiseP mem fs)
      have cr := fun W (h1 : PlaceP W b N mem) (h2 : Es prC W wr.heap.size A' k fs) (h3 : wr.heap.size ≤ W.heap.size) => rise_any b N mem A' k c' fs wr.heap.size W tr h1 h2 h3 (by omega) htr
      have cf := fun W => first_any mem.length W hs
      have hq1 := fun W => mask_eql x y (fstA mem.length) (fstB mem.length) la lb (fst_lt (by omega)) (fst_lt (by omega)) W
      obtain ⟨u, hu⟩ : ∃ u, u = decide (x = fstA mem.length ∧ y = fstB mem.length) := ⟨_, rfl⟩
      rw [← hu] at hq1
      have hfin : t = (u && tr) := by
        rw [Bool.eq_iff_iff, Bool.and_eq_true, hu, decide_eq_true_eq, htr, HT.out]
        exact hd
      have HFIN := hide hfin
      have f0 := q0.c0
      have f1 := q0.c1
      have g0 := Later.cell f0
      have g1 := Later.cell f1
      have hlx : ∀ (z : Later wr) ty, (Builtin.len_ #[124] ty #[.map (some b)]).run Tryz.prog z.w = .ok (.int .i64 mem.length) z.w := fun z ty => by
        have h9 := (hpr.later z.below).size ty
        rw [hlm] at h9
        exact h9
      generalize fstA mem.length = fa at *
      generalize fstB mem.length = fb at *
      have k1 := fun z : Later wr => calm_of (cf z.w)
      have k2 := fun z : Later wr => calm_of (cr z.w (hpr.later z.below) (hes.below z.below) z.below.size)
      clear hd hto hpl hown hu htr hfin cr cf hlm hpr hes f0 f1 q0 hp
      cases u
      · go_wp2_with fail
        refine wp_region_calm (by kernel_rfl) (by kernel_rfl) ?_
        repeat (go_big_quiet_step (first | (go_at_call 131; with_reducible exact k1 _) | (go_at_call 83; with_reducible exact k2 _)))
        refine wpQuiet_nil ?_
        rintro _ ⟨x9, rfl⟩
        have hb9 := x9.below
        generalize x9.w = w9 at hb9 ⊢
        go_wp2
        go_ret
        exact ⟨ret_bool HFIN.out.symm, hb.trans (hb9.mono hb.size)⟩
      · go_wp2_with fail
        refine wp_region_calm (by kernel_rfl) (by kernel_rfl) ?_
        repeat (go_big_quiet_step (first | (go_at_call 131; with_reducible exact k1 _) | (go_at_call 83; with_reducible exact k2 _)))
        refine wpQuiet_nil ?_
        rintro _ ⟨x9, rfl⟩
        have hb9 := x9.below
        generalize x9.w = w9 at hb9 ⊢
        go_wp2
        go_ret
        exact ⟨ret_bool HFIN.out.symm, hb.trans (hb9.mono hb.size)⟩
end Go.Proofs.YtjmkecaljkcoiaaGreatDoor
