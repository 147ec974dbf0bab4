/-
  The law choraguslaw03.PidBytes answers true, and does not panic, for every argument that its row allows; its card ties what the row lists to the program's text. Conditions: none but the row's own.
-/
import Derived.Test.YtcnnpbeadldflaaDoorCards
import Derived.Test.YtcnnpbeadldflaaDoorTie
import Derived.WalkKit
import Derived.ProofKit
import Derived.OpenShut
import Derived.ShutString
import Derived.ChangeOld
import Derived.Below
import Derived.Deep.DeepHandedRow
import Derived.Deep.DeepWitnessRowRef
import Derived.Lib.LaidTab
import Derived.LaidMore
import Derived.Test.YtcnnpbeadldflaaDoorOpen
import Derived.Test.YtcnnpbeadldflaaDoorOpenP
import Derived.Test.YtcnnpbeadldflaaDoorPid2
import Derived.Test.YtcnnpbeadldflaaDoorPid3
import Derived.Test.YtcnnpbeadldflaaDoorLent1
namespace Go.Proofs.YtcnnpbeadldflaaDoor.pidBytes
open Go.ChangeShapes Go.WideShapes Go.ChangeAt Go.RowKit
open Go.ChangeMaps (open_string shut_string)
set_option linter.unusedVariables false
set_option linter.unusedSimpArgs false

theorem pidG_bds (l : List UInt8) : (pidG l).1 < 65536 ∧ (pidG l).2.1 < 4294967296 ∧ (pidG l).2.2.1 ≤ 20 ∧ (pidG l).2.2.2 ≤ 5 := by
  have h1 := getF_bds l
  have h2 := getF_bds (l.drop (getF l).2.1)
  by_cases a1 : (getF l).2.2 = 0
  · by_cases a2 : (getF (l.drop (getF l).2.1)).2.2 = 0
    · by_cases a3 : (getF l).1 < 65536 ∧ (getF (l.drop (getF l).2.1)).1 < 4294967296
      · rw [pidG_4 a1 a2 a3]; exact ⟨a3.1, a3.2, by show (getF l).2.1 + (getF (l.drop (getF l).2.1)).2.1 ≤ 20; omega, Nat.zero_le _⟩
      · rw [pidG_3 a1 a2 a3]; exact ⟨by decide, by decide, by decide, by decide⟩
    · rw [pidG_2 a1 a2]; exact ⟨show 0 < 65536 by decide, show 0 < 4294967296 by decide, Nat.zero_le _, h2.2.2.2⟩
  · rw [pidG_1 a1]; exact ⟨show 0 < 65536 by decide, show 0 < 4294967296 by decide, Nat.zero_le _, h1.2.2.2⟩
set_option maxRecDepth 100000 in
set_option maxHeartbeats 1000000 in
theorem walk (A : Option Addr) (n c : Nat) (zs : List Int) (i k : Nat) (w : World) (w0 : IsRow .u8 w A n c zs) (_b : ∀ x, A = some x → 0 < n → x.block < w.heap.size) (hi : i < 65536) (hk : k < 4294967296) :
    Calls Tryd.prog 7 #[.slice A n c, .agg #[.int .u16 (i : Int), .int .u32 (k : Int)]] w fun e w' => e = .returned (.bool true) ∧ Below w.heap.size w w' := by
  obtain ⟨l, hA, hnc, hc⟩ := isRow_bytes w0
  clear w0 _b
  unfold maxLen at hc
  by_cases h2 : 2000 < n
  · go_enter Tryd.func7, Tryd.ntmps7
    go_wp2_with fail
    refine (awake3_any _).mono ?_
    rintro e w' ⟨rfl, hb⟩
    have hbz := ((Below.refl _ _).alloc (Nat.le_refl w.heap.size) (.cells #[.int .u16 (i : Int), .int .u32 (k : Int)] 25)).trans (hb.mono (by simp))
    clear hb
    go_wp2
    go_ret
    exact ⟨rfl, hbz⟩
  · have hlen := hA.len
    have HL := hide hlen
    clear hlen
    obtain ⟨m, hm⟩ : ∃ m, m = (pidL i k).length := ⟨_, rfl⟩
    have hm20 : m ≤ 20 := by rw [hm, pidL, List.length_append]; have := (shortL_len i).2; have := (shortL_len k).2; omega
    obtain ⟨nm, hnm⟩ : ∃ nm, nm = (l ++ pidL i k).length := ⟨_, rfl⟩
    have hnm' : nm = n + m := by rw [hnm, List.length_append, HL.out, hm]
    have hq := pidG_bds l
    obtain ⟨qi, qk, qn, qe, hG⟩ : ∃ a b c d, pidG l = (a, b, c, d) := ⟨_, _, _, _, rfl⟩
    rw [hG] at hq
    simp only at hq
    obtain ⟨hqi, hqk, hqn, hqe⟩ := hq
    have cput := fun W (X : Option Addr) (cx : Nat) (h : Bs W W.heap.size X n l) => ppid_any X n cx l W.heap.size i k W h (Nat.le_refl _) (by omega) hi hk
    have crput := fun W => rpid_any i k W hi hk
    have cget := fun W (X : Option Addr) (cx : Nat) (h : Bs W W.heap.size X n l) (h1 : n ≤ cx) (h2 : cx ≤ maxLen) => gpid_any X n cx l W.heap.size W h (Nat.le_refl _) h1 h2
    have crget := fun W (h : Bs W W.heap.size A n l) => rgpid_any A n c l W.heap.size W h (Nat.le_refl _) hnc hc
    unfold MakesB at cput crput
    unfold GetsP at cget crget
    rw [← hnm] at cput
    rw [← hm] at crput
    rw [hG] at cget crget
    simp only at cget crget
    have hnmb : nm ≤ 2020 := by omega
    have HM := hide hm
    have HN := hide hnm'
    clear hm hnm hnm' hG
    go_enter Tryd.func7, Tryd.ntmps7
    go_wp2_with fail
    refine (lent_any A n c l _ _ (hA.alloc (Nat.le_refl _) _) (by simp) (by omega)).mono ?_
    rintro e w1 ⟨rfl, hL, hb1⟩
    simp only [World.size_alloc] at hL hb1 ⊢
    have f0 : w1.cell? ⟨w.heap.size, 0, none⟩ = some (.int .u16 (i : Int)) := (hb1.cell (by simp)).trans (by go_simp)
    have f1 : w1.cell? ⟨w.heap.size, 1, none⟩ = some (.int .u32 (k : Int)) := (hb1.cell (by simp)).trans (by go_simp)
    have hbx : Below w.heap.size w w1 := ((Below.refl _ _).alloc (Nat.le_refl _) _).trans (hb1.mono (by omega))
    have l1 : w.heap.size + 1 < w1.heap.size := BlkB.lt hL
    clear hb1
    go_wp2_with fail
    refine (cput w1 _ _ (hL.bs HL.out (by omega))).mono ?_
    rintro e w2 ⟨A2, c2, rfl, ho2, hb2⟩
    have hL2 : LentB w2 (w.heap.size + 1) l := BlkB.later hL hb2
    have f0' : w2.cell? ⟨w.heap.size, 0, none⟩ = some (.int .u16 (i : Int)) := (hb2.cell (World.block_lt_of_cell? _ _ f0)).trans f0
    have f1' : w2.cell? ⟨w.heap.size, 1, none⟩ = some (.int .u32 (k : Int)) := (hb2.cell (World.block_lt_of_cell? _ _ f1)).trans f1
    have hbx2 := hbx.trans (hb2.mono hbx.size)
    have l2 := hb2.size
    clear hL f0 f1 hb2 cput
    go_wp2_with fail
    refine (cget w2 _ _ (hL2.bs HL.out (by omega)) (by omega) (by unfold maxLen; omega)).mono ?_
    rintro e w3 ⟨rfl, hb3⟩
    have ho3 := ho2.later hb3
    have hL3 : LentB w3 (w.heap.size + 1) l := BlkB.later hL2 hb3
    have f0 : w3.cell? ⟨w.heap.size, 0, none⟩ = some (.int .u16 (i : Int)) := (hb3.cell (World.block_lt_of_cell? _ _ f0')).trans f0'
    have f1 : w3.cell? ⟨w.heap.size, 1, none⟩ = some (.int .u32 (k : Int)) := (hb3.cell (World.block_lt_of_cell? _ _ f1')).trans f1'
    have hbx3 := hbx2.trans (hb3.mono hbx2.size)
    have l3 := hb3.size
    clear ho2 hL2 f0' f1' hb3 hbx hbx2 cget
    go_wp2_with fail
    have hA3 := (hA.below (hbx3.alloc (by omega) (.cells #[.int .u16 (qi : Int), .int .u32 (qk : Int)] 25))).more (B' := (w3.alloc (.cells #[.int .u16 (qi : Int), .int .u32 (qk : Int)] 25)).heap.size) (by simp; omega)
    refine (crget _ hA3).mono ?_
    rintro e w4 ⟨rfl, hb4⟩
    simp only [World.size_alloc] at hb4
    have hbx4 := (hbx3.alloc (by omega) (.cells #[.int .u16 (qi : Int), .int .u32 (qk : Int)] 25)).trans (hb4.mono (by omega))
    have hA4 := hA.below hbx4
    have ho4 := (ho3.alloc (.cells #[.int .u16 (qi : Int), .int .u32 (qk : Int)] 25)).later (w' := w4) (by simp only [World.size_alloc]; exact hb4)
    have hL4 : LentB w4 (w.heap.size + 1) l := BlkB.later (BlkB.alloc hL3 (.cells #[.int .u16 (qi : Int), .int .u32 (qk : Int)] 25)) (by simp only [World.size_alloc]; exact hb4)
    have g0 : w4.cell? ⟨w.heap.size, 0, none⟩ = some (.int .u16 (i : Int)) := (hb4.cell (by show w.heap.size < _; omega)).trans ((World.cell?_alloc_lt w3 _ _ (World.block_lt_of_cell? _ _ f0)).trans f0)
    have g1 : w4.cell? ⟨w.heap.size, 1, none⟩ = some (.int .u32 (k : Int)) := (hb4.cell (by show w.heap.size < _; omega)).trans ((World.cell?_alloc_lt w3 _ _ (World.block_lt_of_cell? _ _ f1)).trans f1)
    have g2 : w4.cell? ⟨w3.heap.size, 0, none⟩ = some (.int .u16 (qi : Int)) := (hb4.cell (by simp)).trans (by go_simp)
    have g3 : w4.cell? ⟨w3.heap.size, 1, none⟩ = some (.int .u32 (qk : Int)) := (hb4.cell (by simp)).trans (by go_simp)
    have l4 : w3.heap.size + 1 ≤ w4.heap.size := by have := hb4.size; simpa using this
    clear ho3 hL3 f0 f1 hb4 hbx3 crget hA3
    go_wp2_with fail
    have hbx5 : Below w.heap.size w (w4.alloc (.cells #[.int .u16 (qi : Int), .int .u32 (qk : Int)] 25)) := hbx4.alloc (by omega) _
    have hA5 := hA.below hbx5
    have ho5 := ho4.alloc (.cells #[.int .u16 (qi : Int), .int .u32 (qk : Int)] 25)
    have hL5 : LentB (w4.alloc (.cells #[.int .u16 (qi : Int), .int .u32 (qk : Int)] 25)) (w.heap.size + 1) l := BlkB.alloc hL4 _
    have e0 := (World.cell?_alloc_lt w4 (.cells #[.int .u16 (qi : Int), .int .u32 (qk : Int)] 25) _ (World.block_lt_of_cell? _ _ g0)).trans g0
    have e1 := (World.cell?_alloc_lt w4 (.cells #[.int .u16 (qi : Int), .int .u32 (qk : Int)] 25) _ (World.block_lt_of_cell? _ _ g1)).trans g1
    have e2 := (World.cell?_alloc_lt w4 (.cells #[.int .u16 (qi : Int), .int .u32 (qk : Int)] 25) _ (World.block_lt_of_cell? _ _ g2)).trans g2
    have e3 := (World.cell?_alloc_lt w4 (.cells #[.int .u16 (qi : Int), .int .u32 (qk : Int)] 25) _ (World.block_lt_of_cell? _ _ g3)).trans g3
    have e4 : (w4.alloc (.cells #[.int .u16 (qi : Int), .int .u32 (qk : Int)] 25)).cell? ⟨w4.heap.size, 0, none⟩ = some (.int .u16 (qi : Int)) := by go_simp
    have e5 : (w4.alloc (.cells #[.int .u16 (qi : Int), .int .u32 (qk : Int)] 25)).cell? ⟨w4.heap.size, 1, none⟩ = some (.int .u32 (qk : Int)) := by go_simp
    clear g0 g1 g2 g3 hL4 ho4 hA4 hbx4
    generalize (w4.alloc (.cells #[.int .u16 (qi : Int), .int .u32 (qk : Int)] 25)) = w5 at hbx5 hA5 ho5 hL5 e0 e1 e2 e3 e4 e5 ⊢
    have KS := hide (fun (v : World) (h : Below w5.heap.size w5 v) => (⟨(h.cell (World.block_lt_of_cell? _ _ e0)).trans e0, (h.cell (World.block_lt_of_cell? _ _ e1)).trans e1, (h.cell (World.block_lt_of_cell? _ _ e2)).trans e2, (h.cell (World.block_lt_of_cell? _ _ e3)).trans e3, (h.cell (World.block_lt_of_cell? _ _ e4)).trans e4, (h.cell (World.block_lt_of_cell? _ _ e5)).trans e5⟩ :
      v.cell? ⟨w.heap.size, 0, none⟩ = some (.int .u16 (i : Int)) ∧ v.cell? ⟨w.heap.size, 1, none⟩ = some (.int .u32 (k : Int)) ∧ v.cell? ⟨w3.heap.size, 0, none⟩ = some (.int .u16 (qi : Int)) ∧ v.cell? ⟨w3.heap.size, 1, none⟩ = some (.int .u32 (qk : Int)) ∧ v.cell? ⟨w4.heap.size, 0, none⟩ = some (.int .u16 (qi : Int)) ∧ v.cell? ⟨w4.heap.size, 1, none⟩ = some (.int .u32 (qk : Int))))
    clear e0 e1 e2 e3 e4 e5
    have t1 : ((qn : Int) == (qn : Int)) = true := by simp
    have t2 : ((qe : Int) == (qe : Int)) = true := by simp
    go_region_held3 (fun v => v.cell? ⟨w.heap.size, 0, none⟩ = some (.int .u16 (i : Int)) ∧ v.cell? ⟨w.heap.size, 1, none⟩ = some (.int .u32 (k : Int)) ∧ v.cell? ⟨w3.heap.size, 0, none⟩ = some (.int .u16 (qi : Int)) ∧ v.cell? ⟨w3.heap.size, 1, none⟩ = some (.int .u32 (qk : Int)) ∧ v.cell? ⟨w4.heap.size, 0, none⟩ = some (.int .u16 (qi : Int)) ∧ v.cell? ⟨w4.heap.size, 1, none⟩ = some (.int .u32 (qk : Int)))
      (first | exact KS.out _ ((Below.refl _ _).drew) | exact KS.out _ (((Below.refl _ _).alloc (Nat.le_refl _) _).drew) | exact KS.out _ hq6 | exact KS.out _ hq7 | exact KS.out _ hq8 | exact KS.out _ hq9 | exact KS.out _ hq10 | exact KS.out _ hq11)
      (first | (refine step_bytes_own _ rfl (.tmp 35) (.tmp 36) rfl w5.heap.size 0 _ [] (by simp [Act.eval, Act.put]) (OwnB.drew (own_lit w5 w5.heap.size 0 [] _ rfl rfl (by decide) (Nat.le_refl _))) _ A n c l (by simp [Act.eval, Act.put]) (hA5.alloc hbx5.size _) (by omega) w5.heap.size w5 (((Below.refl _ _).alloc (Nat.le_refl _) _).drew) (Nat.le_refl _) (by simp) ?_; intro A6 c6 w6 ho6 hq6 _; simp only [Nat.zero_add, List.nil_append] at ho6 ⊢) | (go_at_call 26; (with_reducible refine (crput _).mono ?_); rintro e w7 ⟨A7, c7, rfl, ho7, hb7⟩; have hq7 : Below w5.heap.size w5 w7 := hq6.trans (hb7.mono hq6.size)) | (refine step_bytes_own _ rfl (.tmp 37) (.tmp 39) rfl w5.heap.size n _ l (by simp [Act.eval, Act.put]) (ho6.later hb7) _ A7 m c7 (pidL i k) (by simp [Act.eval, Act.put]) ho7.bs (by omega) w5.heap.size w5 hq7 (Nat.le_refl _) hq7.size ?_; intro A8 c8 w8 ho8 hq8 _) | (go_at_call 25; (refine (same_eq _ _ _ _ _ _ _ _ _ _ _ (ho5.later hq8).bs ho8.bs (by unfold maxLen; omega) rfl).mono ?_); rintro e w9 ⟨rfl, hd9⟩; have hq9 : Below w5.heap.size w5 w9 := hq8.trans ((drawn_below hd9 (B := w8.heap.size)).mono hq8.size)) | (go_at_call 27; (refine (kept_any A n c _ l _ _ (hA5.below (hq9.mono hbx5.size)) (BlkB.later hL5 hq9) (by omega)).mono ?_); rintro e w10 ⟨rfl, hd10⟩; have hq10 : Below w5.heap.size w5 w10 := hq9.trans ((drawn_below hd10 (B := w9.heap.size)).mono hq9.size)) | (go_at_call 13; (refine (awake3_any _).mono ?_); rintro e w11 ⟨rfl, hb11⟩; have hq11 : Below w5.heap.size w5 w11 := hq10.trans (hb11.mono hq10.size)))
    have hbz := hbx5.trans (hq11.mono hbx5.size)
    clear hq6 hq7 hq8 hq9 hq10 hq11 ho6 ho7 ho8 hb7 hb11 hd9 hd10 hbx5
    go_wp2
    go_ret
    exact ⟨rfl, hbz⟩

/-! ### THE ROW's STEP, AND THE CARD -/
set_option maxRecDepth 100000 in
/-- What the walk gives, for every argument and every world that holds what the row lists. -/
theorem contract (H : Type) (enc : TypeId × Value → H) (W : World) (base : Nat) (args : Array Value) (ds gs : List (DataW H)) (before : List MemPlace)
    (hval : ∀ (j : Nat) t v, Tryd.f7.params[j]? = some t → args[j]? = some v → Value.okWide Tryd.prog W .any base t v)
    (hW : DataW.Whole enc Tryd.prog Tryd.f7.params.toList Rows.pidBytesSpec.vars false W args.toList ds gs before)
    (_hsz : (DataW.weightsEach Tryd.prog (Tryd.f7.params.toList ++ (OpenSpec.ofChange Rows.pidBytesSpec).bare.plain.varTypes Tryd.prog) (ds ++ gs)).all (· ≤ reachBytes) = true)
    (_hL : laidMetH Tryd.prog Rows.pidBytesRow.laid W) :
    Calls Tryd.prog 7 args W fun e W' => ∃ v, e = .returned v ∧ Rows.pidBytesSpec.post enc Tryd.prog Tryd.f7 false true false false W args v W' := by
  have hW' := hW
  obtain ⟨p, q, hA0, hV, rfl, hfz, hnd⟩ := hW
  have hA : DataW.TrodAll enc Tryd.prog W 0 (fun _ => true) true Tryd.f7.params.toList args.toList ds p := hA0
  rw [Tryd.params7] at hA hval _hsz
  obtain ⟨v0, vs0, d0, ds0, p0, q0, hargs, rfl, rfl, h0, r0⟩ := trodAll_cons hA
  obtain ⟨v1, vs1, d1, ds1, p1, q1, rfl, rfl, rfl, h1, r1⟩ := trodAll_cons r0
  obtain ⟨rfl, rfl, rfl⟩ := trodAll_nil r1
  obtain rfl : args = #[v0, v1] := by cases args; simp_all
  obtain ⟨rfl, rfl⟩ := trodVars_none hV
  have k0 := h0
  have lt0 : ∀ x ∈ p0, x.block < W.heap.size := by obtain ⟨m, hm⟩ := k0; exact DataW.trod_lt m _ _ _ hm
  obtain ⟨a0, len0, cap0, rfl⟩ := okWide_slice Tryd.underlying45 (hval 0 45 v0 rfl rfl)
  obtain ⟨z0, w0⟩ : ∃ zs, IsRow .u8 W a0 len0 cap0 zs := by
    obtain ⟨fuel, hf⟩ := h0
    rcases open_ints Tryd.underlying45 Tryd.underlying5 (by kernel_rfl) hf with ⟨hcs, _⟩ | ⟨x, l, c, zs, hcs, _, hl, hm, hz, _, hcell, hwz⟩
    · simp [Value.cells] at hcs
      obtain ⟨rfl, rfl, rfl⟩ := hcs
      exact ⟨[], .inl ⟨rfl, rfl, rfl, rfl⟩⟩
    · simp [Value.cells] at hcs
      obtain ⟨rfl, rfl, rfl⟩ := hcs
      exact ⟨zs, .inr ⟨_, rfl, hl, hm, by simpa using hz, hcell, hwz⟩⟩
  have b0 : ∀ x, a0 = some x → 0 < len0 → x.block < W.heap.size := isRow_block w0
  have k1 := h1
  have lt1 : ∀ x ∈ p1, x.block < W.heap.size := by obtain ⟨m, hm⟩ := k1; exact DataW.trod_lt m _ _ _ hm
  obtain ⟨i1, c1, rfl, hi1, hc1⟩ := open_pid (hval 1 25 v1 rfl rfl) h1
  clear hA0
  refine (walk a0 len0 cap0 z0 i1 c1 W w0 b0 hi1 hc1).mono fun e W' ⟨he, bel⟩ => ?_
  subst he
  exact ⟨_, rfl, _, _, _, [], _, [], hW', trodAll_mk1 (shut_bool Tryd.underlying4 _), (trodAll_cons_mk (Below.trod laidOut (by kernel_rfl) (of_decide_eq_true (by kernel_rfl)) k0 bel lt0) (trodAll_cons_mk (Below.trod laidOut (by kernel_rfl) (of_decide_eq_true (by kernel_rfl)) k1 bel lt1) trodAll_mk0)), rfl, bel.frame _, fun h => by cases h⟩

/-- A world for the witness: what the door's own run leaves. -/
theorem laid_met (os : Os) : laidMet Tryd.prog Rows.pidBytesRow.laid (((World.doorLaid Tryd.prog 400 os)).forCall (fun _ _ => 0) ⟨#[], #[.slice none 0 0, .agg #[.int .u16 0, .int .u32 0]], []⟩).memory :=
  laidMet_of_run' 8 (by kernel_rfl) (by kernel_rfl)
theorem reads (os : Os) {H : Type} (enc : TypeId × Value → H) : ∃ places, DataW.whole enc Tryd.prog (((World.doorLaid Tryd.prog 400 os)).forCall (fun _ _ => 0) ⟨#[], #[.slice none 0 0, .agg #[.int .u16 0, .int .u32 0]], []⟩).memory Tryd.f7.params.toList Rows.pidBytesSpec.vars false (#[.slice none 0 0, .agg #[.int .u16 0, .int .u32 0]] : Array Value).toList 8 = some ([.nil, .agg [.lit (.int .u16 0), .lit (.int .u32 0)]], [], places) :=
  ⟨[], by kernel_rfl⟩
set_option maxRecDepth 100000 in
theorem lifted (os : Os) (started : os.Started) (H : Type) (enc : TypeId × Value → H) (F : Stop.Interp) :
    ReturnsInHanded {} Tryd.checked os 7 .any ((OpenSpec.ofChange Rows.pidBytesSpec).preRow enc Tryd.prog Tryd.f7 Rows.pidBytesRow.domain false Rows.pidBytesRow.laid) (((OpenSpec.ofChange Rows.pidBytesSpec).at F).post enc Tryd.prog Tryd.f7 false true false false) := by
  obtain ⟨places, hx⟩ := reads os enc
  refine returnsInHanded_of_row (C := Tryd.checked) (s := OpenSpec.ofChange Rows.pidBytesSpec) own started (by kernel_rfl) Tryd.func7
    (witness_row_atRef (enc := enc) (C := Tryd.checked) false (World.doorLaid Tryd.prog 400 os) #[.slice none 0 0, .agg #[.int .u16 0, .int .u32 0]] rfl (by kernel_rfl) (by kernel_rfl) (by kernel_rfl)
      (OpenSpec.preRow_of_cond 8 hx (by kernel_rfl) (fun k hk => by cases hk) (by kernel_rfl) (laid_met os))) ?_
  intro W base args ds gs before hval hW _ _ hsz hL _ _
  exact contract H enc W base args ds gs before hval hW hsz hL
theorem said : Rows.PidBytesSaid :=
  OpenClaim.holds_of_cond 7 Tryd.f7 rfl rfl rfl rfl rfl rfl rfl ⟨rfl, rfl, rfl, rfl, rfl⟩ rfl rfl rfl rfl rfl (by kernel_rfl) Tryd.func7 (by kernel_rfl)
    (of_decide_eq_true (by kernel_rfl)) (by unfold Func.isWrapper; first | (rw [if_pos (by decide +kernel)]; kernel_rfl) | (rw [if_neg (by decide +kernel)]; exact ⟨rfl, rfl⟩))
    (fun os started H enc _ F => by rw [OpenClaim.pre_eq_preRow]; exact lifted os started H enc F)
theorem proved : Rows.PidBytesCardSaid :=
  Claim7.holds_tied_plain_at .later [] _ _ _ _ said (fun _ h => by cases h) (by kernel_rfl) (fun _ h => by cases h) pidBytes_row_tie rfl ⟨rfl, rfl⟩ (by kernel_rfl) rfl
    (fun f fn hf hfn => by
      obtain rfl : f = 7 := Option.some.inj ((show Tryd.prog.funcNamed "choragus/choraguslaw03.PidBytes" = some 7 by kernel_rfl).symm.trans hf) |>.symm
      obtain rfl : fn = Tryd.f7 := (Option.some.inj (Tryd.func7.symm.trans hfn)).symm
      exact ⟨by kernel_rfl, fun j t ht => by
        rw [Tryd.params7] at ht
        have hm : t ∈ [45, 25] := by simpa using Array.mem_of_getElem? ht
        have hall : ([45, 25].all fun u => !Tryd.prog.wantsStandIn u) = true := by kernel_rfl
        exact (show Tryd.prog.wantsStandIn t = false by simpa using List.all_eq_true.1 hall t hm)⟩)
    (by kernel_rfl)
#print axioms proved
end Go.Proofs.YtcnnpbeadldflaaDoor.pidBytes
