/-
  Layer 5: Shares.
-/
import Derived.Test.YtnaegaeicdknbaaShare1
namespace Go.Proofs.Ytnaegaeicdknbaa
open Go.RowKit Go.Maps
set_option linter.unusedVariables false
set_option linter.unusedSimpArgs false

/-- When the first k are done: the unlike ones fs, the answer out. -/
structure ShTo (l : List Mk) (k : Nat) (fs : List Mk) (out : List (Mk × Nat)) : Prop where
  fst_ : fs = dedM (l.take k)
  ans : out = shL (l.take k)
theorem ShTo.start (l : List Mk) : ShTo l 0 [] [] := ⟨rfl, rfl⟩
theorem ShTo.len {l : List Mk} {k : Nat} {fs : List Mk} {out : List (Mk × Nat)} (h : ShTo l k fs out) : out.length = fs.length := by rw [h.ans, h.fst_, shL_len]
theorem ShTo.old {l : List Mk} {k j : Nat} {fs : List Mk} {out : List (Mk × Nat)} (h : ShTo l k fs out) (hk : k < l.length) (hj : fs[j]? = some l[k]) :
    ∃ c, out[j]? = some (l[k], c) ∧ c ≤ k ∧ ShTo l (k + 1) fs (out.set j (l[k], c + 1)) := by
  obtain ⟨h1, h2⟩ := h
  subst h1; subst h2
  have ho := shL_old hj
  rw [← List.take_succ_eq_append_getElem hk] at ho
  exact ⟨_, shL_at hj, Nat.le_trans (List.count_le_length) (List.length_take_le _ _), ho.2.symm, ho.1.symm⟩
theorem ShTo.new {l : List Mk} {k : Nat} {fs : List Mk} {out : List (Mk × Nat)} (h : ShTo l k fs out) (hk : k < l.length) (hj : l[k] ∉ fs) : ShTo l (k + 1) (fs ++ [l[k]]) (out ++ [(l[k], 1)]) := by
  obtain ⟨h1, h2⟩ := h
  subst h1; subst h2
  have ho := shL_new hj
  rw [← List.take_succ_eq_append_getElem hk] at ho
  exact ⟨ho.2.symm, ho.1.symm⟩
theorem ShTo.done {l : List Mk} {k : Nat} {fs : List Mk} {out : List (Mk × Nat)} (h : ShTo l k fs out) (hk : l.length ≤ k) : out = shL l := by
  rw [h.ans, List.take_of_length_le hk]
theorem info_share : (Try.prog.info? 46).map (fun i => (i.zero, i.size, i.bytes)) = some (some (.agg #[.int .u64 0, .int .u64 0, .int .i64 0]), 3, 24) := by kernel_rfl
abbrev OwnS (w : World) (base : Nat) (v : Value) (n : Nat) (l : List (Mk × Nat)) : Prop := OwnE 46 shC 3 w base v n l
theorem mk_at {w : World} {ad : Addr} {k : Nat} {m : Mk} (hc : ∀ i v, (mkC m)[i]? = some v → w.cell? (ad.add (k * 2 + i)) = some v) :
    w.cell? (ad.add (k * 2)) = some (.int .u64 (m.a : Int)) ∧ w.cell? ⟨(ad.add (k * 2)).block, (ad.add (k * 2)).off + 1, none⟩ = some (.int .u64 (m.b : Int)) := by
  refine ⟨hc 0 _ rfl, ?_⟩
  have h := hc 1 _ rfl
  rw [← add_of_add] at h
  exact h
theorem es_share (w : World) (m : Mk) (c : Nat) (T : TypeId) : Es shC (w.alloc (.cells #[.int .u64 (m.a : Int), .int .u64 (m.b : Int), .int .i64 (c : Int)] T)) (w.heap.size + 1) (some ⟨w.heap.size, 0, none⟩) 1 [(m, c)] := by
  refine ⟨rfl, fun _ => ⟨_, rfl, by simp, fun j v hv => ?_⟩⟩
  have e : ec shC [(m, c)] = [.int .u64 (m.a : Int), .int .u64 (m.b : Int), .int .i64 (c : Int)] := rfl
  rw [e] at hv
  have hadd : (⟨w.heap.size, 0, none⟩ : Addr).add j = ⟨w.heap.size, j, none⟩ := by unfold Addr.add; split <;> simp_all
  rw [hadd, cell_of_row _ _ j _ _ _ (heap_alloc_new w _)]
  simpa using hv
set_option maxRecDepth 100000 in
theorem shares_any (A : Option Addr) (n c : Nat) (l : List Mk) (B : Nat) (w : World) (hA : Es mkC w B A n l) (hB : B ≤ w.heap.size) (hn : n ≤ 1000000) :
    Calls Try.prog 23 #[.slice A n c] w fun e w' => ∃ A' c', e = .returned (.slice A' (shL l).length c') ∧ OwnS w' w.heap.size (.slice A' (shL l).length c') (shL l).length (shL l) ∧ Below w.heap.size w w' := by
  have hlen := hA.len
  have HL := hide hlen
  clear hlen
  have hmm := @run_makeMap Try.prog
  obtain ⟨i0, hi, hz0, hz1, hz2⟩ := info_partsM info_share
  have h0 := ShTo.start l
  go_enter Try.func23, Try.ntmps23
  go_wp2
  go_loopw [3, 12] (fun v i wr => ∃ (k q : Nat) (A' : Option Addr) (c' : Nat) (fs : List Mk) (out : List (Mk × Nat)), k ≤ n ∧ i = .int .i64 k ∧ v = .slice A' q c' ∧ q ≤ k ∧ ShTo l k fs out ∧ PlaceM wr w.heap.size k fs ∧ OwnS wr (w.heap.size + 1) (.slice A' q c') q out ∧ Below w.heap.size w wr ∧ w.heap.size + 1 ≤ wr.heap.size) (fun _ i _ => n - (intOf i).toNat)
  case atStart => exact ⟨0, 0, none, 0, [], [], Nat.zero_le _, rfl, rfl, Nat.le_refl _, h0, PlaceM.made _, OwnE.nil_ _ _, (Below.refl _ _).alloc (Nat.le_refl _) _, by simp⟩
  case round =>
    obtain ⟨k, q, A', c', fs, out, hk, rfl, rfl, hqk, hto, hpl, hown, hb, hsz⟩ := hrel
    clear h0
    by_cases hlt : k < n
    · have hAr := hA.below (hb.mono hB)
      obtain ⟨ad, hl, rfl, hbl, hc⟩ := hAr.at_ mkOk hlt
      have hq := hown.len shOk
      have hqf := hto.len
      obtain ⟨D, hD, hh⟩ := hpl
      by_cases hin : l[k] ∈ fs
      · have hat := placeF_at hin
        obtain ⟨cn, ho, hck, hst⟩ := hto.old hl hat
        obtain ⟨m, hm⟩ : ∃ m, m = l[k] := ⟨_, rfl⟩
        rw [← hm] at hc hst hin hat ho
        obtain ⟨c0, c1⟩ := mk_at hc
        clear hm hc
        have hkey := key_mk m
        have hhas := (hh m).1
        have hval := (hh m).2
        rw [decide_eq_true hin] at hhas
        obtain ⟨j, hj⟩ : ∃ j, j = placeF fs m := ⟨_, rfl⟩
        rw [← hj] at hval hat ho hst
        have hjl : j < out.length := (List.getElem?_eq_some_iff.1 ho).1
        have hoj : out[j] = (m, cn) := (List.getElem?_eq_some_iff.1 ho).2
        have hjq : j < q := by omega
        obtain ⟨g, rfl, hg1, hg2⟩ := OwnE.form hown (by omega)
        have hw1 : OwnS (wr.alloc (.cells #[.int .u64 (m.a : Int), .int .u64 (m.b : Int)] 24)) (w.heap.size + 1) (.slice (some ⟨g, 0, none⟩) q c') q out := hown.alloc _
        have d0 : (wr.alloc (.cells #[.int .u64 (m.a : Int), .int .u64 (m.b : Int)] 24)).cell? ⟨g, j * 3 + 2, none⟩ = some (.int .i64 (cn : Int)) := OwnE.cell_ shOk hw1 hjl (by decide) (by rw [hoj]; rfl)
        have d1 : (wr.alloc (.cells #[.int .u64 (m.a : Int), .int .u64 (m.b : Int)] 24)).frozen? ⟨g, j * 3 + 2, none⟩ = false := OwnE.fz_ hw1 _
        have s1 := (OwnE.stored shOk hown (j := j) (i := 2) (y := (m, cn + 1)) (u := .int .i64 ((cn : Int) + 1)) hjl (by decide) (by rw [hoj]; rfl)).alloc (.cells #[.int .u64 (m.a : Int), .int .u64 (m.b : Int)] 24)
        have s0 : PlaceM ((wr.setCell ⟨g, j * 3 + 2, none⟩ (.int .i64 ((cn : Int) + 1))).alloc (.cells #[.int .u64 (m.a : Int), .int .u64 (m.b : Int)] 24)) w.heap.size (k + 1) fs := ((PlaceM.mono ⟨D, hD, hh⟩ (Nat.le_succ _)).setCell (by show w.heap.size ≠ g; omega) _).alloc _
        have s2 : Below w.heap.size w ((wr.setCell ⟨g, j * 3 + 2, none⟩ (.int .i64 ((cn : Int) + 1))).alloc (.cells #[.int .u64 (m.a : Int), .int .u64 (m.b : Int)] 24)) := (hb.setCell (by show w.heap.size ≤ g; omega) _).alloc (by have := hb.size; simp; omega) _
        have S := hide (And.intro hst (And.intro s0 (And.intro s1 s2)))
        clear hst s0 s1 s2 hh hin hat ho hj hown hto hqf hw1 hA hAr hoj hq
        go_wp2_with (at_lookup; refine wpList_lookup_known _ rfl _ _ 54 rfl 24 3 .i64 lawMask Try.underlying54 underInt (zeroInt _) w.heap.size k D rfl (hD.alloc _) _ _ rfl hkey (j : Int) hval true hhas ?_)
        go_roundw
        case rel => exact ⟨k + 1, q, _, c', fs, _, by omega, by go_num, rfl, by omega, S.out.1, S.out.2.1, S.out.2.2.1, S.out.2.2.2, by simp; omega⟩
        case measure => simp [intOf]; omega
      · have hst := hto.new hl hin
        obtain ⟨m, hm⟩ : ∃ m, m = l[k] := ⟨_, rfl⟩
        rw [← hm] at hc hst hin
        obtain ⟨c0, c1⟩ := mk_at hc
        clear hm hc
        have hkey := key_mk m
        have hhas := (hh m).1
        have hval := (hh m).2
        rw [decide_eq_false hin] at hhas
        rw [placeF_no hin] at hval
        have hwfq : (Lit.int .i64 (q : Int)).wf = true := by simp [Lit.wf, IntKind.min, IntKind.max, IntKind.bits, IntKind.signed]; omega
        have hpe := plainElem_int (H := Unit) (P := Try.prog) (e := 3) underInt hwfq
        have hqfs : (q : Int) = (fs.length : Int) := by omega
        have HH := hide hh
        have HQ := hide (And.intro hqfs hq)
        clear hh hto hwfq hAr hqfs hqf hq
        go_wp2_with (first
          | (at_lookup; refine wpList_lookup_known _ rfl _ _ 54 rfl 24 3 .i64 lawMask Try.underlying54 underInt (zeroInt _) w.heap.size k D rfl (hD.alloc _) _ _ rfl hkey _ hval false hhas ?_)
          | (at_mapUpdate; refine wpList_mapUpdate_own _ rfl _ _ _ 54 rfl 24 3 lawMask Try.underlying54 (plainElem Try.prog 3) w.heap.size k D rfl (hD.alloc _) (by unfold maxLen; omega) _ _ _ rfl rfl hkey _ [] hpe ?_; intro w1 hD1 hgrow1; refine Hid.out ?_))
        refine Lib.hid ?_
        have d0 : w1.cell? ⟨wr.heap.size, 0, none⟩ = some (.int .u64 (m.a : Int)) := hgrow1.cell (by go_simp) (by simp; omega)
        have d1 : w1.cell? ⟨wr.heap.size, 1, none⟩ = some (.int .u64 (m.b : Int)) := hgrow1.cell (by go_simp) (by simp; omega)
        have hz1' : wr.heap.size + 1 ≤ w1.heap.size := by have := hgrow1.size; simpa using this
        have hown1 := (hown.alloc (.cells #[.int .u64 (m.a : Int), .int .u64 (m.b : Int)] 24)).grown hgrow1 (Nat.lt_succ_self _)
        have hb1 : Below w.heap.size w w1 := (hb.alloc hb.size (.cells #[.int .u64 (m.a : Int), .int .u64 (m.b : Int)] 24)).grown hgrow1 (by have := hb.size; simp; omega) (fun j hj => by injection hj with hj; omega)
        have hset1 := PlaceM.put hD.isMap HH.out hin _ HQ.out.1 hD1
        have HB := hide hb1
        have HS := hide hset1
        clear hhas hval hb1 hset1 hgrow1 hD hD1 c0 c1 hown hb HH
        go_wp2_with (at_builtin; refine wp_append_g _ rfl (.tmp 29) (.tmp 32) 43 rfl 46 i0 _ 24 Try.underlying43 hi hz0 ‹_› hz2 rfl shOk (w.heap.size + 1) q _ out rfl (hown1.alloc _) (w1.heap.size + 1) _ 1 1 [(m, 0)] rfl (es_share w1 m 0 _) (by unfold maxLen; omega) (by omega) w.heap.size w (HB.out.alloc HB.out.size _) (Nat.le_succ _) (by simp; omega) (by omega) ?_; intro g c2 w2 r1 r2 r3 r4; refine Hid.out ?_)
        have r5 : (w1.alloc (.cells #[.int .u64 (m.a : Int), .int .u64 (m.b : Int), .int .i64 0] 46)).grownBy w2 (Value.slice A' q c').ownBlock := r4
        have r6 : OwnS w2 (w.heap.size + 1) (.slice (some ⟨g, 0, none⟩) (q + 1) c2) (q + 1) (out ++ [(m, 0)]) := r1
        have r7 : PlaceM w2 w.heap.size (k + 1) (fs ++ [m]) := (HS.out.alloc _).grown r5 (fun e => by have := hown1.lt _ e.symm; omega)
        have r8 : w.heap.size + 1 ≤ w2.heap.size := by simp at r3; omega
        obtain ⟨_, hg0, hg1, hg2⟩ := OwnE.form r6 (by omega)
        obtain rfl : g = _ := by injection hg0 with hg0; injection hg0
        have hlo : q < (out ++ [(m, 0)]).length := by rw [List.length_append, HQ.out.2]; simp
        have hoq : (out ++ [(m, 0)])[q] = (m, 0) := by
          rw [List.getElem_append_right (by rw [HQ.out.2]; omega)]
          simp
        have e0 : w2.cell? ⟨g, q * 3 + 2, none⟩ = some (.int .i64 0) := OwnE.cell_ shOk r6 hlo (by decide) (by rw [hoq]; rfl)
        have e1 : w2.frozen? ⟨g, q * 3 + 2, none⟩ = false := OwnE.fz_ r6 _
        have s1 := OwnE.stored shOk r6 (j := q) (i := 2) (y := (m, 1)) (u := .int .i64 1) hlo (by decide) (by rw [hoq]; rfl)
        have hse : (out ++ [(m, 0)]).set q (m, 1) = out ++ [(m, 1)] := by
          rw [List.set_append_right _ _ (by rw [HQ.out.2]; omega), HQ.out.2]
          simp
        rw [hse] at s1
        have s0 : PlaceM (w2.setCell ⟨g, q * 3 + 2, none⟩ (.int .i64 1)) w.heap.size (k + 1) (fs ++ [m]) := r7.setCell (by show w.heap.size ≠ g; omega) _
        have s2 : Below w.heap.size w (w2.setCell ⟨g, q * 3 + 2, none⟩ (.int .i64 1)) := r2.setCell (by show w.heap.size ≤ g; omega) _
        have s3 : w.heap.size + 1 ≤ (w2.setCell ⟨g, q * 3 + 2, none⟩ (.int .i64 1)).heap.size := by simp; omega
        have S := hide (And.intro hst (And.intro s0 (And.intro s1 (And.intro s2 s3))))
        refine Lib.hid ?_
        clear r1 r2 r3 r4 r5 r6 r7 d0 d1 hown1 s0 s1 s2 s3 hst hse hoq hlo hg0 HB HS HQ hpe hkey hin
        go_wp2_with fail
        go_roundw
        case rel => exact ⟨k + 1, q + 1, _, c2, fs ++ [m], out ++ [(m, 1)], by omega, by go_num, rfl, by omega, S.out.1, S.out.2.1, S.out.2.2.1, S.out.2.2.2.1, S.out.2.2.2.2⟩
        case measure => simp [intOf]; omega
    · have hd := hto.done (by rw [HL.out]; omega)
      have hlen2 := OwnE.len shOk hown
      have HH := hide (And.intro hd (And.intro hown (And.intro hb hlen2)))
      clear hd hto hown hb hlen2 hpl
      go_wp2
      go_ret
      obtain ⟨hd, ho, hb2, hlen2⟩ := HH.out
      rw [← hd]
      subst hlen2
      exact ⟨A', c', rfl, ho.mono (by omega), hb2⟩
end Go.Proofs.Ytnaegaeicdknbaa
