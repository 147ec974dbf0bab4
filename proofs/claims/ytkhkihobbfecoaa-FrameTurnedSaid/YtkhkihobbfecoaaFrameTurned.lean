/-
  The law choraguslaw06.FrameTurned answers true, and does not panic, for every argument that its row allows. Conditions: none but the row's own.
-/
import Derived.Test.YtkhkihobbfecoaaRows
import Derived.WalkKit
import Derived.ProofKit
import Derived.OpenShut
import Derived.ShutString
import Derived.ChangeOld
import Derived.Below
import Derived.Test.YtkhkihobbfecoaaOpen
import Derived.Test.YtkhkihobbfecoaaOpenF
import Derived.Test.YtkhkihobbfecoaaFrame5
import Derived.Test.YtkhkihobbfecoaaFrame9
import Derived.Test.YtkhkihobbfecoaaPick
namespace Go.Proofs.Ytkhkihobbfecoaa.frameTurned
open Go.ChangeShapes Go.WideShapes Go.ChangeAt Go.RowKit
open Go.ChangeMaps (open_string shut_string)
set_option linter.unusedVariables false
set_option linter.unusedSimpArgs false

theorem frame_size {k i c j d s : Nat} {l : List UInt8} (h : IsP (frameL k i c j d s l) k i c j d s l) : numL (((frameL k i c j d s l).drop 4).take 4) = (frameL k i c j d s l).length := h.size
set_option maxRecDepth 100000 in
set_option maxHeartbeats 1000000 in
theorem walk (k : Int) (i c j d s : Nat) (A : Option Addr) (n q : Nat) (l : List UInt8) (a1 a2 a3 : Int) (w : World) (hp : PkOk w k i c j d s A n q l) (w1 : (Lit.int .i64 a1).wf = true) (w2 : (Lit.int .u8 a2).wf = true) (w3 : (Lit.int .i64 a3).wf = true) :
    Calls Try.prog 6 #[.agg #[.int .i64 (k : Int), .int .u16 (i : Int), .int .u32 (c : Int), .int .u16 (j : Int), .int .u32 (d : Int), .int .u64 (s : Int), .slice A n q], .int .i64 a1, .int .u8 a2, .int .i64 a3] w fun e w' => e = .returned (.bool true) ∧ Below w.heap.size w w' := by
  obtain ⟨hk0, hk1, hi, hc, hj, hd, hs, hA, hnq, hq⟩ := hp
  have b1 := wf_i64 w1
  have b2 := wf_u8 w2
  have b3 := wf_i64 w3
  have hlen := hA.len
  have hb0 : Below w.heap.size w (w.alloc (.cells #[.int .i64 (k : Int), .int .u16 (i : Int), .int .u32 (c : Int), .int .u16 (j : Int), .int .u32 (d : Int), .int .u64 (s : Int), .slice A n q] 29)) := (Below.refl _ _).alloc (Nat.le_refl _) _
  unfold maxLen at hq
  clear w1 w2 w3
  by_cases h1 : 300 < n
  · go_enter Try.func6, Try.ntmps6
    go_wp2_with fail
    refine (awake6_any _).mono ?_
    rintro e w' ⟨rfl, hb⟩
    have hbz := hb0.trans (hb.mono (by simp))
    go_wp2
    go_ret
    exact ⟨rfl, hbz⟩
  · by_cases h2 : checkF k i c j d n = 0
    · have hok := checkF_ok h2
      obtain ⟨kn, rfl⟩ := Int.eq_ofNat_of_zero_le (show 0 ≤ k by omega)
      have hI := isP_form kn i c j d s l (by omega) hi hc hj hd hs (by omega) (by rw [hlen]; exact h2)
      obtain ⟨m, hm⟩ : ∃ m, m = (frameL kn i c j d s l).length := ⟨_, rfl⟩
      have hml : m = 12 + ((fldL i c j d s).length + n) := by rw [hm, frameL_len, hlen]
      have hfl := fldL_len i c j d s
      have hm1 : 1 ≤ m := by omega
      have hm2 : m ≤ 10000 := by omega
      have ce := fun W (h : Bs W W.heap.size A n l) => encode_yes kn i c j d s A n q m l W h hi hc hj hd hs h2 hm
      have hcut := fun x => decE_cut (m := x) (frame_size hI)
      have hturn := fun x y => decE_turned (l := bareL kn i c j d s l) (k := x) (y := y)
      rw [← hm] at hcut
      have hturn' : ∀ x y, (hx : x < (frameL kn i c j d s l).length) → y ≠ (frameL kn i c j d s l)[x] → decE ((frameL kn i c j d s l).set x y) ≠ 0 := hturn
      obtain ⟨L, hL⟩ : ∃ L, L = frameL kn i c j d s l := ⟨_, rfl⟩
      rw [← hL] at hm ce hcut hturn'
      clear hturn hI hok hml hfl h2 hL
      obtain ⟨pc, hpc, hpm⟩ : ∃ x : Nat, pickF a3 m = (x : Int) ∧ x < m := by
        have := pickF_bd (a := a3) (n := (m : Int)) (by omega)
        exact ⟨(pickF a3 m).toNat, by omega, by omega⟩
      obtain ⟨pk, hpk, hpkm⟩ : ∃ x : Nat, pickF a1 m = (x : Int) ∧ x < m := by
        have := pickF_bd (a := a1) (n := (m : Int)) (by omega)
        exact ⟨(pickF a1 m).toNat, by omega, by omega⟩
      have hd1 := hcut pc hpm
      have hA1 := (hA.alloc (Nat.le_refl _) (.cells #[.int .i64 (kn : Int), .int .u16 (i : Int), .int .u32 (c : Int), .int .u16 (j : Int), .int .u32 (d : Int), .int .u64 (s : Int), .slice A n q] 29)).more (B' := (w.alloc (.cells #[.int .i64 (kn : Int), .int .u16 (i : Int), .int .u32 (c : Int), .int .u16 (j : Int), .int .u32 (d : Int), .int .u64 (s : Int), .slice A n q] 29)).heap.size) (by simp)
      have HPC := hide hpc
      have HPK := hide hpk
      have HL := hide hlen
      have HM := hide hm
      have HT := hide hturn'
      clear hpc hpk hlen hm hcut hturn'
      go_enter Try.func6, Try.ntmps6
      go_wp2_with fail
      refine (ce _ hA1).mono ?_
      rintro e w1 ⟨A1, c1, rfl, hO1, hb1⟩
      obtain ⟨g, rfl, hg1, hg2⟩ := hO1.block (by omega)
      have hcap := hO1.cap
      have hroom := hO1.room
      have hx1 := hb0.trans (hb1.mono (by simp))
      have hs1 := hx1.size
      have hg0 : w.heap.size ≤ g := by simp at hg1; omega
      clear ce hA1 hb0 hb1
      go_wp2_with fail
      refine (pick_any a3 m _ (by omega) (by omega) (by omega) (by omega)).mono ?_
      rintro e w' ⟨rfl, rfl⟩
      rw [HPC.out]
      have hpm' : pc ≤ m := by omega
      go_wp2_with fail
      have hd2 := decode_any (some ⟨g, 0, none⟩) pc c1 (L.take pc) w1 (hO1.bs.take hpm') (by omega) hroom (by omega)
      refine hd2.mono ?_
      rintro e w2 ⟨hb2, h⟩
      rcases h with ⟨he, rfl⟩ | ⟨_, _, _, _, _, _, _, _, _, h0, _⟩
      · have t1 : ((decE (L.take pc) : Nat) : Int) ≠ 0 := by omega
        obtain ⟨f1, hf1⟩ : ∃ f1, f1 = decE (L.take pc) := ⟨_, rfl⟩
        rw [← hf1] at t1 ⊢
        have t2 : ((f1 : Int) == 0) = false := by rw [beq_eq_false_iff_ne]; exact t1
        have hO2 := hO1.later hb2
        have hx2 := hx1.trans (hb2.mono hs1)
        clear hd2 hd1 he hf1 hO1 hb2
        have hs2 := hx2.size
        have hO3 := hO2.alloc (.cells #[.int .i64 (0 : Int), .int .u16 (0 : Int), .int .u32 (0 : Int), .int .u16 (0 : Int), .int .u32 (0 : Int), .int .u64 (0 : Int), .slice none 0 0] 29)
        have hx3 : Below w.heap.size w (w2.alloc (.cells #[.int .i64 (0 : Int), .int .u16 (0 : Int), .int .u32 (0 : Int), .int .u16 (0 : Int), .int .u32 (0 : Int), .int .u64 (0 : Int), .slice none 0 0] 29)) := hx2.alloc hs2 _
        by_cases h3 : a2 = 0
        · subst h3
          clear hO2 hx2 hO3
          go_wp2_with fail
          refine (awake6_any _).mono ?_
          rintro e w' ⟨rfl, hb⟩
          have hbz := hx3.trans (hb.mono (by simp; omega))
          go_wp2
          go_ret
          exact ⟨rfl, hbz⟩
        · obtain ⟨x, rfl⟩ := Int.eq_ofNat_of_zero_le b2.1
          have hx256 : x < 256 := by omega
          have hx0 : x ≠ 0 := by omega
          have t3 : ((x : Int) != 0) = true := by simp; omega
          have t4 : ((m : Int) > 0) = True := by simp; omega
          have hkl : pk < L.length := by rw [← HM.out]; exact hpkm
          have hno := HT.out pk _ hkl (u8_turned L[pk] x hx256 hx0)
          have hxx := u8_turn L[pk] x hx256
          have hcell := hO3.cell hpkm hkl
          have hfr := hO3.frozen pk
          have hO4 := hO3.set_ pk (L[pk] ^^^ UInt8.ofNat x)
          have hx4 := hx3.setCell (p := ⟨g, pk, none⟩) hg0 (byteV (L[pk] ^^^ UInt8.ofNat x))
          obtain ⟨L2, hL2⟩ : ∃ L2, L2 = L.set pk (L[pk] ^^^ UInt8.ofNat x) := ⟨_, rfl⟩
          rw [← hL2] at hno hO4
          unfold byteV at hcell hO4 hx4
          rw [← hxx] at hO4 hx4
          generalize L[pk].toNat = y at hcell hO4 hx4
          have HX := hide hxx
          clear hL2 hxx HX hO3 hO2 hx2 hx3 HL h3
          have i0 : (0 : Int) ≤ (pk : Int) := by omega
          have i1 : (pk : Int) < (m : Int) := by omega
          go_wp2_with fail
          refine (pick_any a1 m _ (by omega) (by omega) (by omega) (by omega)).mono ?_
          rintro e w' ⟨rfl, rfl⟩
          rw [HPK.out]
          go_wp2_with fail
          refine (decode_any _ m c1 L2 _ hO4.bs hcap hroom (by omega)).mono ?_
          rintro e w5 ⟨hb5, h⟩
          rcases h with ⟨he, rfl⟩ | ⟨_, _, _, _, _, _, _, _, _, h0, _⟩
          · obtain ⟨f2, hf2⟩ : ∃ f2, f2 = decE L2 := ⟨_, rfl⟩
            rw [← hf2] at hno ⊢
            have t5 : ((f2 : Int) == 0) = false := by rw [beq_eq_false_iff_ne]; omega
            have hx5 := hx4.trans (hb5.mono hx4.size)
            have hx6 := hx5.alloc hx5.size (.cells #[.int .i64 (0 : Int), .int .u16 (0 : Int), .int .u32 (0 : Int), .int .u16 (0 : Int), .int .u32 (0 : Int), .int .u64 (0 : Int), .slice none 0 0] 29)
            have hs6 := hx5.size
            clear he hf2 hb5 hO4 hx4 hcell hfr
            go_wp2_with fail
            refine (awake6_any _).mono ?_
            rintro e w' ⟨rfl, hb⟩
            have hbz := hx6.trans (hb.mono (by simp; omega))
            go_wp2
            go_ret
            exact ⟨rfl, hbz⟩
          · exact absurd h0 hno
      · exact absurd h0 hd1
    · have ce := fun W => encode_no k i c j d s A n q W hk0 hk1 hi hc hj hd (by omega) h2
      obtain ⟨f, hf⟩ : ∃ f, f = checkF k i c j d n := ⟨_, rfl⟩
      rw [← hf] at ce h2
      have t : ((f : Int) != 0) = true := by simp; omega
      clear hf h2 hlen
      go_enter Try.func6, Try.ntmps6
      go_wp2_with fail
      refine (ce _).mono ?_
      rintro e w1 ⟨rfl, hb1⟩
      have hx1 := hb0.trans (hb1.mono (by simp))
      have hs1 := hx1.size
      clear ce hb0 hb1
      go_wp2_with fail
      refine (awake6_any _).mono ?_
      rintro e w' ⟨rfl, hb⟩
      have hbz := hx1.trans (hb.mono hs1)
      go_wp2
      go_ret
      exact ⟨rfl, hbz⟩

/-! ### THE ROW's STEP -/
set_option maxRecDepth 100000 in
theorem lifted (os : Os) (started : os.Started) (H : Type) (enc : TypeId × Value → H) :
    ReturnsInHanded {} Try.checked os 6 .any (Rows.frameTurnedSpec.pre6 enc Try.prog Try.f6 Rows.frameTurnedRow.domain false) (Rows.frameTurnedSpec.post enc Try.prog Try.f6 false true false false) := by
  refine returnsInHanded_of_change (C := Try.checked) own started (by kernel_rfl) Try.func6
    (ChangeSpec.witness6 (enc := enc) (C := Try.checked) false ⟨#[], #[.agg #[.int .i64 0, .int .u16 0, .int .u32 0, .int .u16 0, .int .u32 0, .int .u64 0, .slice none 0 0], .int .i64 0, .int .u8 0, .int .i64 0], []⟩ 8 (by kernel_rfl) (by kernel_rfl) (by kernel_rfl) (by kernel_rfl)) ?_
  intro W base args ds gs before hval0 hW hcnd _
  have hval : ∀ (j : Nat) t v, Try.f6.params[j]? = some t → args[j]? = some v → Value.okWide Try.prog W .any base t v := hval0
  have hW' := hW
  obtain ⟨p, q, hA0, hV, rfl, hfz, hnd⟩ := hW
  have hA : DataW.TrodAll enc Try.prog W 0 (fun _ => true) true Try.f6.params.toList args.toList ds p := hA0
  rw [Try.params6] at hA hval
  obtain ⟨v0, vs0, d0, ds0, p0, q0, hargs, rfl, rfl, h0, r0⟩ := trodAll_cons hA
  obtain ⟨v1, vs1, d1, ds1, p1, q1, rfl, rfl, rfl, h1, r1⟩ := trodAll_cons r0
  obtain ⟨v2, vs2, d2, ds2, p2, q2, rfl, rfl, rfl, h2, r2⟩ := trodAll_cons r1
  obtain ⟨v3, vs3, d3, ds3, p3, q3, rfl, rfl, rfl, h3, r3⟩ := trodAll_cons r2
  obtain ⟨rfl, rfl, rfl⟩ := trodAll_nil r3
  obtain rfl : args = #[v0, v1, v2, v3] := by cases args; simp_all
  obtain ⟨rfl, rfl⟩ := trodVars_none hV
  have k0 := h0
  have lt0 : ∀ x ∈ p0, x.block < W.heap.size := by obtain ⟨m, hm⟩ := k0; exact DataW.trod_lt m _ _ _ hm
  obtain ⟨k0x, i0x, c0x, j0x, d0x, s0x, a0, n0, q0, l0, rfl, hp0⟩ := open_packet (hval 0 29 v0 rfl rfl) h0
  have k1 := h1
  have lt1 : ∀ x ∈ p1, x.block < W.heap.size := by obtain ⟨m, hm⟩ := k1; exact DataW.trod_lt m _ _ _ hm
  obtain ⟨a1, rfl, rfl, rfl, w1⟩ := open_int Try.underlying3 (hval 1 3 v1 rfl rfl) h1
  have k2 := h2
  have lt2 : ∀ x ∈ p2, x.block < W.heap.size := by obtain ⟨m, hm⟩ := k2; exact DataW.trod_lt m _ _ _ hm
  obtain ⟨a2, rfl, rfl, rfl, w2⟩ := open_int Try.underlying5 (hval 2 5 v2 rfl rfl) h2
  have k3 := h3
  have lt3 : ∀ x ∈ p3, x.block < W.heap.size := by obtain ⟨m, hm⟩ := k3; exact DataW.trod_lt m _ _ _ hm
  obtain ⟨a3, rfl, rfl, rfl, w3⟩ := open_int Try.underlying3 (hval 3 3 v3 rfl rfl) h3
  clear hA0 hval0
  refine (walk k0x i0x c0x j0x d0x s0x a0 n0 q0 l0 a1 a2 a3 W hp0 w1 w2 w3).mono fun e W' ⟨he, bel⟩ => ?_
  subst he
  exact ⟨_, rfl, _, _, _, [], _, [], hW', trodAll_mk1 (shut_bool Try.underlying4 _), (trodAll_cons_mk (Below.trod laidOut (by kernel_rfl) (of_decide_eq_true (by kernel_rfl)) k0 bel lt0) (trodAll_cons_mk (Below.trod laidOut (by kernel_rfl) (of_decide_eq_true (by kernel_rfl)) k1 bel lt1) (trodAll_cons_mk (Below.trod laidOut (by kernel_rfl) (of_decide_eq_true (by kernel_rfl)) k2 bel lt2) (trodAll_cons_mk (Below.trod laidOut (by kernel_rfl) (of_decide_eq_true (by kernel_rfl)) k3 bel lt3) trodAll_mk0)))), rfl, bel.frame _, fun h => by cases h⟩

theorem over : Rows.frameTurnedRow.holds Try.pinned (OpenSpec.ofChange Rows.frameTurnedSpec) :=
  OpenClaim.holds_of_wide 6 Try.f6 rfl rfl rfl rfl rfl rfl rfl ⟨rfl, rfl, rfl, rfl, rfl⟩ rfl rfl rfl rfl rfl (by kernel_rfl) Try.func6 (by kernel_rfl)
    (of_decide_eq_true (by kernel_rfl)) (by unfold Func.isWrapper; first | (rw [if_pos (by decide +kernel)]; kernel_rfl) | (rw [if_neg (by decide +kernel)]; exact ⟨rfl, rfl⟩))
    (fun os started H enc _ => lifted os started H enc)

theorem proved : Rows.FrameTurnedSaid := over
#print axioms proved
end Go.Proofs.Ytkhkihobbfecoaa.frameTurned
