/-
  The law choraguslaw09.CmdForms answers true, and does not panic, for every argument that its row allows. Conditions: none but the row's own.
-/
import Derived.Test.YtdmihbicpjmgjaaRows
import Derived.WalkKit
import Derived.ProofKit
import Derived.OpenShut
import Derived.ShutString
import Derived.ChangeOld
import Derived.Below
import Derived.Test.YtdmihbicpjmgjaaQOpenF
import Derived.Test.YtdmihbicpjmgjaaQRfW
import Derived.Test.YtdmihbicpjmgjaaQRfZ
namespace Go.Proofs.Ytdmihbicpjmgjaa.cmdForms
open Go.ChangeShapes Go.WideShapes Go.ChangeAt Go.RowKit
open Go.ChangeMaps (open_string shut_string)
set_option linter.unusedVariables false
set_option linter.unusedSimpArgs false

/-- Some slice of just these bytes. -/
def BsW (L : List UInt8) (v : Value) (w : World) : Prop := ∃ A c, v = .slice A L.length c ∧ Bs w w.heap.size A L.length L
theorem bsW_steady (L : List UInt8) : Steady (BsW L) := fun v w w' ⟨A, c, e, h⟩ hb => ⟨A, c, e, (h.below hb).more hb.size⟩
set_option maxRecDepth 100000 in
set_option maxHeartbeats 8000000 in
theorem walk (x : Cx) (A : Option Addr) (n c : Nat) (zs : List Int) (w : World) (h : CxIn w w.heap.size x) (w0 : IsRow .u8 w A n c zs) (_b : ∀ x, A = some x → 0 < n → x.block < w.heap.size) :
    Calls Try.prog 3 #[.agg #[.int .i64 x.kind, .int .u16 (x.p.i : Int), .int .u32 (x.p.k : Int), .int .u64 (x.num : Int), .int .u64 (x.vn : Int), .slice x.A x.n x.c, .int .u64 (x.x.id : Int), .slice x.x.A x.x.m x.x.c, .slice x.x.B x.x.d x.x.e, .slice x.x.C x.x.f x.x.g], .slice A n c] w fun e w' => e = .returned (.bool true) ∧ Below w.heap.size w w' := by
  obtain ⟨l, hA, hnc, hc⟩ := isRow_bytes w0
  clear w0 _b
  have hcm := hc
  unfold maxLen at hc
  have hlen := hA.len
  subst hlen
  have hbz : Below w.heap.size w (w.alloc (.cells #[.int .i64 x.kind, .int .u16 (x.p.i : Int), .int .u32 (x.p.k : Int), .int .u64 (x.num : Int), .int .u64 (x.vn : Int), .slice x.A x.n x.c, .int .u64 (x.x.id : Int), .slice x.x.A x.x.m x.x.c, .slice x.x.B x.x.d x.x.e, .slice x.x.C x.x.f x.x.g] 33)) := (Below.refl _ _).alloc (Nat.le_refl _) _
  have v0 := CAt.mk_ w x
  generalize hw2 : (w.alloc (.cells #[.int .i64 x.kind, .int .u16 (x.p.i : Int), .int .u32 (x.p.k : Int), .int .u64 (x.num : Int), .int .u64 (x.vn : Int), .slice x.A x.n x.c, .int .u64 (x.x.id : Int), .slice x.x.A x.x.m x.x.c, .slice x.x.B x.x.d x.x.e, .slice x.x.C x.x.f x.x.g] 33)) = w2 at *
  have AW := fun W (hb : Below w.heap.size w W) => (awake9_any W).mono (fun e w' (hh : e = .returned (.bool true) ∧ Below W.heap.size W w') => (⟨hh.1, hb.trans (hh.2.mono hb.size)⟩ : e = .returned (.bool true) ∧ Below w.heap.size w w'))
  have cg := great9_any x w.heap.size w2 (h.below hbz) hbz.size
  unfold Great9P at cg
  obtain ⟨j0, j1, j2, j3, j4, j5, j6, j7, j8, j9⟩ := v0.cells
  go_enter Try.func3, Try.ntmps3
  go_wp2_with fail
  refine cg.mono ?_
  rintro e w3 ⟨gb, rfl, hsm, hb⟩
  have hb3 := hbz.trans (hb.mono hbz.size)
  have v03 := v0.later hb
  clear cg hw2 hb hbz v0 j0 j1 j2 j3 j4 j5 j6 j7 j8 j9
  obtain ⟨j0, j1, j2, j3, j4, j5, j6, j7, j8, j9⟩ := v03.cells
  have aw := AW w3 hb3
  cases gb
  case true =>
    clear hsm
    go_wp2_with fail
    refine aw.mono ?_
    rintro e w4 ⟨rfl, hb4⟩
    go_wp2
    go_ret
    exact ⟨rfl, hb4⟩
  have hs := hsm rfl
  clear hsm
  by_cases hbig : 2000 < l.length
  case pos =>
    have z1 : decide ((2000 : Int) < (l.length : Int)) = true := decide_eq_true (by omega)
    go_wp2_with fail
    refine aw.mono ?_
    rintro e w4 ⟨rfl, hb4⟩
    go_wp2
    go_ret
    exact ⟨rfl, hb4⟩
  have z1 : decide ((2000 : Int) < (l.length : Int)) = false := decide_eq_false (by omega)
  have hn2000 : l.length ≤ 2000 := by omega
  have k1 := WrAt.new w3 w3.heap.size (Nat.le_refl _)
  have hbw : Below w3.heap.size w3 (w3.alloc (.cells #[.slice none 0 0] 38)) := (Below.refl _ _).alloc (Nat.le_refl _) _
  have sz4 : (w3.alloc (.cells #[.slice none 0 0] 38)).heap.size = w3.heap.size + 1 := by simp
  have v04 := v03.alloc (.cells #[.slice none 0 0] 38)
  have hb4 := hb3.trans (hbw.mono hb3.size)
  have hlt3 := v03.lt
  -- what Put lays, and Form answers
  have key : ∃ L : List UInt8, L.length ≤ 200200 ∧ (MayC x.m → L = formC x.m) ∧ (¬ MayC x.m → L = []) ∧ Calls Try.prog 8 #[.pointer (some ⟨w3.heap.size, 0, none⟩), .agg #[.int .i64 x.kind, .int .u16 (x.p.i : Int), .int .u32 (x.p.k : Int), .int .u64 (x.num : Int), .int .u64 (x.vn : Int), .slice x.A x.n x.c, .int .u64 (x.x.id : Int), .slice x.x.A x.x.m x.x.c, .slice x.x.B x.x.d x.x.e, .slice x.x.C x.x.f x.x.g]] (w3.alloc (.cells #[.slice none 0 0] 38)) (WroteP (w3.alloc (.cells #[.slice none 0 0] 38)) w3.heap.size w3.heap.size none L) := by
    by_cases hm : MayC x.m
    · have c1 := cput_any x w3.heap.size w3.heap.size w.heap.size none [] _ k1 hbw.size (by decide) (h.below hb4) hb3.size hs hm
      rw [List.nil_append] at c1
      have lx := formC_len hm
      exact ⟨formC x.m, by omega, fun _ => rfl, fun e => absurd hm e, c1⟩
    · exact ⟨[], by decide, fun e => absurd e hm, fun _ => rfl, cput_no x w3.heap.size w3.heap.size w.heap.size none [] _ k1 hbw.size (h.below hb4) hb4.size hs hm⟩
  obtain ⟨L, hL, hL1, hL0, c1⟩ := key
  have HL := hide (And.intro hL1 hL0)
  clear hL1 hL0 aw v03 j0 j1 j2 j3 j4 j5 j6 j7 j8 j9
  obtain ⟨j0, j1, j2, j3, j4, j5, j6, j7, j8, j9⟩ := v04.cells
  go_wp2_with fail
  generalize (w3.alloc (.cells #[.slice none 0 0] 38)) = w4 at *
  refine c1.mono ?_
  rintro e w5 ⟨rfl, mg, k5, ht5, hm5⟩
  have low5 := k1.turned ht5 hbw.size
  have hb5 := hb4.trans (low5.mono (by omega))
  have v05 := v04.turn ht5 (by omega) (by simp)
  have s5 := ht5.size
  have hl5 : w.heap.size < w3.heap.size := hlt3
  clear c1 k1 ht5 hm5 hbw v04 hb4 low5 j0 j1 j2 j3 j4 j5 j6 j7 j8 j9
  obtain ⟨j0, j1, j2, j3, j4, j5, j6, j7, j8, j9⟩ := v05.cells
  obtain ⟨t, ht⟩ := bool_of (ButLen x.m)
  have ck := rcheck9_any x w.heap.size w5 t (h.below hb5) hs.v hb5.size ht
  have cm := ckE_may ht
  rw [show x.m.d.length = x.n from h.bs.len] at cm
  generalize ckE t x.n = r at *
  clear ht
  by_cases hr : r = 0
  case neg =>
    have z2 : (r == 0) = false := by rw [beq_eq_false_iff_ne]; exact hr
    have z3 : ¬ r = 0 := hr
    obtain rfl : L = [] := HL.out.2 (fun hm => hr (cm.2 hm))
    clear cm hr
    go_wp2_with fail
    refine ck.mono ?_
    rintro e w6 ⟨rfl, hb⟩
    have hb6 := hb5.trans (hb.mono hb5.size)
    have k6 := k5.later hb
    have hB6 : Bs w6 w6.heap.size none 0 [] := Bs.none_
    clear ck hb hb5 v05 k5 HL
    have rd := read_any A l.length c l w.heap.size w6 (hA.below hb6) hb6.size (by omega)
    go_wp2_with fail
    refine rd.mono ?_
    rintro e w7 ⟨b1, rfl, hlo, hr7, hb⟩
    have hb7 := hb6.trans (hb.mono hb6.size)
    have hb1 := hr7.lt
    have hbl : Below w7.heap.size w7 (w7.alloc (.cells #[.slice A l.length c, .int .i64 0] 46)) := (Below.refl _ _).alloc (Nat.le_refl _) _
    have hr8 := hr7.later hbl
    have q8 := hb.trans (hbl.mono hb.size)
    have hb8 := hb7.trans (hbl.mono hb7.size)
    have row8 : (w7.alloc (.cells #[.slice A l.length c, .int .i64 0] 46)).heap[w7.heap.size]? = some (.cells #[.slice A l.length c, .int .i64 0] 46) := heap_alloc_new w7 _
    have sz8 : (w7.alloc (.cells #[.slice A l.length c, .int .i64 0] 46)).heap.size = w7.heap.size + 1 := by simp
    clear rd hb hbl hr7 j0 j1 j2 j3 j4 j5 j6 j7 j8 j9
    go_wp2_with fail
    generalize (w7.alloc (.cells #[.slice A l.length c, .int .i64 0] 46)) = w8 at *
    have cg1 := cget_tot b1 ⟨l, 0⟩ w8 hr8 (by show l.length ≤ _; omega)
    unfold CGetT at cg1
    refine cg1.mono ?_
    rintro e w9 ⟨y1, rfl, hm1, ho1, hs1, hn1, hr9, ht9⟩
    have q9 := q8.trans (ht9.below q8.size hlo (fun g hg => by cases hg))
    have hb9 := hb6.trans (q9.mono hb6.size)
    have rf9 : RfAt w9 w7.heap.size l 0 := ⟨A, c, (ht9.block w7.heap.size (by omega) (by omega) (by simp)).trans row8, (hA.below hb9).more hb7.size, hnc, hcm⟩
    have s9 := ht9.size
    have cg2 := xcmd_tot w7.heap.size ⟨l, 0⟩ w9 rf9
    unfold CGetF at cg2
    clear cg1 q8 hr8 row8 ht9 rf9 hb8
    go_wp2_with fail
    refine cg2.mono ?_
    rintro e w10 ⟨y2, rfl, hm2, ho2, hs2, hn2, rf10, ht10⟩
    have q10 := q9.trans (ht10.below q9.size (by omega) (fun g hg => by cases hg))
    have hr10 := hr9.turn ht10 hb1 (fun g hg => by cases hg)
    have ho1' := ho1.turnLow ht10 (by omega)
    have s10 := ht10.size
    have hlz : Below w10.heap.size w10 ((w10.alloc (.cells #[.int .i64 y1.kind, .int .u16 (y1.p.i : Int), .int .u32 (y1.p.k : Int), .int .u64 (y1.num : Int), .int .u64 (y1.vn : Int), .slice y1.A y1.n y1.c, .int .u64 (y1.x.id : Int), .slice y1.x.A y1.x.m y1.x.c, .slice y1.x.B y1.x.d y1.x.e, .slice y1.x.C y1.x.f y1.x.g] 33)).alloc (.cells #[.int .i64 y2.kind, .int .u16 (y2.p.i : Int), .int .u32 (y2.p.k : Int), .int .u64 (y2.num : Int), .int .u64 (y2.vn : Int), .slice y2.A y2.n y2.c, .int .u64 (y2.x.id : Int), .slice y2.x.A y2.x.m y2.x.c, .slice y2.x.B y2.x.d y2.x.e, .slice y2.x.C y2.x.f y2.x.g] 33)) := ((Below.refl _ _).alloc (Nat.le_refl _) _).alloc (by simp) _
    have vy := (CAt.mk_ w10 y1).alloc (.cells #[.int .i64 y2.kind, .int .u16 (y2.p.i : Int), .int .u32 (y2.p.k : Int), .int .u64 (y2.num : Int), .int .u64 (y2.vn : Int), .slice y2.A y2.n y2.c, .int .u64 (y2.x.id : Int), .slice y2.x.A y2.x.m y2.x.c, .slice y2.x.B y2.x.d y2.x.e, .slice y2.x.C y2.x.f y2.x.g] 33)
    have vz := CAt.mk_ (w10.alloc (.cells #[.int .i64 y1.kind, .int .u16 (y1.p.i : Int), .int .u32 (y1.p.k : Int), .int .u64 (y1.num : Int), .int .u64 (y1.vn : Int), .slice y1.A y1.n y1.c, .int .u64 (y1.x.id : Int), .slice y1.x.A y1.x.m y1.x.c, .slice y1.x.B y1.x.d y1.x.e, .slice y1.x.C y1.x.f y1.x.g] 33)) y2
    simp only [World.size_alloc] at vz
    have q12 := q10.trans (hlz.mono q10.size)
    have hb12 := hb6.trans (q12.mono hb6.size)
    have hr12 := hr10.later hlz
    have rf12 := rf10.later hlz
    have iy := (ho1'.later hlz).in_ hn1
    have iz := (ho2.later hlz).in_ hn2
    clear cg2 q9 q10 hr9 hr10 ht10 rf10 ho1 ho1' ho2 hlz hb9
    go_wp2_with fail
    generalize ((w10.alloc (.cells #[.int .i64 y1.kind, .int .u16 (y1.p.i : Int), .int .u32 (y1.p.k : Int), .int .u64 (y1.num : Int), .int .u64 (y1.vn : Int), .slice y1.A y1.n y1.c, .int .u64 (y1.x.id : Int), .slice y1.x.A y1.x.m y1.x.c, .slice y1.x.B y1.x.d y1.x.e, .slice y1.x.C y1.x.f y1.x.g] 33)).alloc (.cells #[.int .i64 y2.kind, .int .u16 (y2.p.i : Int), .int .u32 (y2.p.k : Int), .int .u64 (y2.num : Int), .int .u64 (y2.vn : Int), .slice y2.A y2.n y2.c, .int .u64 (y2.x.id : Int), .slice y2.x.A y2.x.m y2.x.c, .slice y2.x.B y2.x.d y2.x.e, .slice y2.x.C y2.x.f y2.x.g] 33)) = w12 at *
    generalize (cmdS ⟨l, 0⟩) = R at *
    obtain ⟨M, ⟨K, q⟩⟩ := R
    dsimp only at hm1 hm2 hr12 rf12
    obtain ⟨A5, c5, sl12⟩ := rf12
    have k12 := k6.later q12
    have B12 := hB6.below q12
    have n1 := fun W (hW : Below w12.heap.size w12 W) => wdone_any w3.heap.size w3.heap.size mg [] W (k12.later hW) (by omega)
    have n2 := fun W (hW : Below w12.heap.size w12 W) A8 c8 (h8 : Bs W W.heap.size A8 ([] : List UInt8).length []) => same_eq A8 none ([] : List UInt8).length 0 c8 0 [] [] W.heap.size w6.heap.size W h8 (B12.below (hW.mono q12.size)) (by unfold maxLen; omega) rfl
    have n3 := fun W (hW : Below w12.heap.size w12 W) => rcsame_any y1 y2 w12.heap.size w12.heap.size W true (iy.below hW) (iz.below hW) hW.size hW.size ⟨fun _ => hm1.trans hm2.symm, fun _ => rfl⟩
    have n4 := fun W (hW : Below w12.heap.size w12 W) => err_any b1 K q W (hr12.later hW)
    have n5 := fun W (hW : Below w12.heap.size w12 W) => left_any b1 K q W (hr12.later hW)
    have n6 := fun W => awake9_any W
    have k1 := fun W (hW : Below w12.heap.size w12 W) => (vy.later hW).cells
    have k2 := fun W (hW : Below w12.heap.size w12 W) => (vz.later hW).cells
    have k3 := fun W (hW : Below w12.heap.size w12 W) => (sl12.later hW).cells
    clear k12 B12 iy iz hr12 sl12 vy vz hm1 hm2 hs1 hs2 hn1 hn2 k6 hB6 hA
    by_cases hq : q = 0
    · have HQ : Hid (((q : Int) != 0) = false ∧ (q : Int) = 0 ∧ decide ((q : Int) ≠ 0) = false) := ⟨by rw [hq]; rfl, by omega, decide_eq_false (by omega)⟩
      clear hq
      refine wp_region_flow (by kernel_rfl) (by kernel_rfl) (by kernel_rfl) ?_
      refine flow_val rfl ?_
      apply Exists.intro
      apply And.intro
      · intro ρ w8 hr hf
        have r1 := hr.const
        have r2 := hr.func
        try simp [Oper.looksAt, Op.operands, Call.operands, tput, frameW, Act.eval] at hf
        go_simp
        try rfl
      refine flow_step (BsW []) rfl (bsW_steady []) ?_ ?_
      · intro ρ w8 hr hw hf
        have r2 := hr.func
        simp [Oper.looksAt, Op.operands, Call.operands, tput, frameW, Act.eval] at hf
        have CN := hide (n1 w8 hw)
        go_simp
        refine ⟨Below.refl _ _, (unhide CN).mono ?_⟩
        rintro e w7 ⟨A7, c7, rfl, ho7, hb7⟩
        exact ⟨_, rfl, hb7, A7, c7, rfl, ho7.bs⟩
      refine flow_val rfl ?_
      apply Exists.intro
      apply And.intro
      · intro ρ w8 hr hf
        have r1 := hr.const
        have r2 := hr.func
        try simp [Oper.looksAt, Op.operands, Call.operands, tput, frameW, Act.eval] at hf
        go_simp
        try rfl
      refine flow_step (fun v _ => v = .bool true) rfl (fun _ _ _ h _ => h) ?_ ?_
      · intro ρ w8 hr hw hf
        have r2 := hr.func
        simp [Oper.looksAt, Op.operands, Call.operands, tput, frameW, Act.eval] at hf
        obtain ⟨⟨A8, c8, hf1, hb8⟩, hf2⟩ := hf
        have CN := hide (n2 w8 hw A8 c8 hb8)
        go_simp
        refine ⟨Below.refl _ _, (unhide CN).mono ?_⟩
        rintro e w7 ⟨rfl, hd7⟩
        exact ⟨_, rfl, drawn_below hd7, rfl⟩
      refine flow_val rfl ?_
      apply Exists.intro
      apply And.intro
      · intro ρ w8 hr hf
        have r1 := hr.const
        have r2 := hr.func
        try simp [Oper.looksAt, Op.operands, Call.operands, tput, frameW, Act.eval] at hf
        go_simp
        try rfl
      refine flow_yes_pure (.agg #[.int .i64 y1.kind, .int .u16 (y1.p.i : Int), .int .u32 (y1.p.k : Int), .int .u64 (y1.num : Int), .int .u64 (y1.vn : Int), .slice y1.A y1.n y1.c, .int .u64 (y1.x.id : Int), .slice y1.x.A y1.x.m y1.x.c, .slice y1.x.B y1.x.d y1.x.e, .slice y1.x.C y1.x.f y1.x.g]) 4 true 42 rfl rfl (fun v w8 h8 => by simpa [tput] using h8) ?_ ?_
      · intro ρ w8 hr hw hf
        obtain ⟨u0, u1, u2, u3, u4, u5, u6, u7, u8, u9⟩ := k1 w8 hw
        try simp [Oper.looksAt, Op.operands, Call.operands, tput, frameW, Act.eval] at hf
        go_simp
      refine flow_yes_pure (.agg #[.int .i64 y2.kind, .int .u16 (y2.p.i : Int), .int .u32 (y2.p.k : Int), .int .u64 (y2.num : Int), .int .u64 (y2.vn : Int), .slice y2.A y2.n y2.c, .int .u64 (y2.x.id : Int), .slice y2.x.A y2.x.m y2.x.c, .slice y2.x.B y2.x.d y2.x.e, .slice y2.x.C y2.x.f y2.x.g]) 4 true 42 rfl rfl (fun v w8 h8 => by simpa [tput] using h8) ?_ ?_
      · intro ρ w8 hr hw hf
        obtain ⟨u0, u1, u2, u3, u4, u5, u6, u7, u8, u9⟩ := k2 w8 hw
        try simp [Oper.looksAt, Op.operands, Call.operands, tput, frameW, Act.eval] at hf
        go_simp
      refine flow_yes (fun v _ => v = .bool true) 4 true 42 rfl rfl (fun v w8 h8 => by simpa [tput] using h8) (fun _ _ _ h _ => h) ?_ ?_
      · intro ρ w8 hr hw hf
        have r2 := hr.func
        simp [Oper.looksAt, Op.operands, Call.operands, tput, frameW, Act.eval] at hf
        have CN := hide (n3 w8 hw)
        go_simp
        refine ⟨Below.refl _ _, (unhide CN).mono ?_⟩
        rintro e w7 ⟨rfl, hb7⟩
        exact ⟨_, rfl, hb7, rfl⟩
      refine flow_val rfl ?_
      apply Exists.intro
      apply And.intro
      · intro ρ w8 hr hf
        have r1 := hr.const
        have r2 := hr.func
        try simp [Oper.looksAt, Op.operands, Call.operands, tput, frameW, Act.eval] at hf
        go_simp
        try rfl
      refine flow_val rfl ?_
      apply Exists.intro
      apply And.intro
      · intro ρ w8 hr hf
        have r1 := hr.const
        have r2 := hr.func
        try simp [Oper.looksAt, Op.operands, Call.operands, tput, frameW, Act.eval] at hf
        go_simp
        try rfl
      refine flow_yes_val 9 true 47 rfl rfl (fun v w8 h8 => by simpa [tput] using h8) ?_
      apply Exists.intro
      apply And.intro
      · intro ρ w8 hr hf
        have r1 := hr.const
        have r2 := hr.func
        try simp [Oper.looksAt, Op.operands, Call.operands, tput, frameW, Act.eval] at hf
        go_simp
        try rfl
      refine flow_yes (fun v _ => v = .int .i64 (q : Int)) 9 true 47 rfl rfl (fun v w8 h8 => by simpa [tput] using h8) (fun _ _ _ h _ => h) ?_ ?_
      · intro ρ w8 hr hw hf
        have r2 := hr.func
        simp [Oper.looksAt, Op.operands, Call.operands, tput, frameW, Act.eval] at hf
        have CN := hide (n4 w8 hw)
        go_simp
        refine ⟨Below.refl _ _, (unhide CN).mono ?_⟩
        rintro e w7 ⟨rfl, rfl⟩
        exact ⟨_, rfl, Below.refl _ _, rfl⟩
      refine flow_yes_val 9 true 47 rfl rfl (fun v w8 h8 => by simpa [tput] using h8) ?_
      apply Exists.intro
      apply And.intro
      · intro ρ w8 hr hf
        have r1 := hr.const
        have r2 := hr.func
        try simp [Oper.looksAt, Op.operands, Call.operands, tput, frameW, Act.eval] at hf
        go_simp
        try rfl
      refine flow_yes_val 9 true 47 rfl rfl (fun v w8 h8 => by simpa [tput] using h8) ?_
      apply Exists.intro
      apply And.intro
      · intro ρ w8 hr hf
        have r1 := hr.const
        have r2 := hr.func
        try simp [Oper.looksAt, Op.operands, Call.operands, tput, frameW, Act.eval] at hf
        go_simp
        try rfl
      refine flow_yes_val 9 true 47 rfl rfl (fun v w8 h8 => by simpa [tput] using h8) ?_
      apply Exists.intro
      apply And.intro
      · intro ρ w8 hr hf
        have r1 := hr.const
        have r2 := hr.func
        try simp [Oper.looksAt, Op.operands, Call.operands, tput, frameW, Act.eval] at hf
        go_simp
        try rfl
      refine flow_yes_pure (.int .i64 (q : Int)) 9 true 47 rfl rfl (fun v w8 h8 => by simpa [tput] using h8) ?_ ?_
      · intro ρ w8 hr hw hf
        obtain ⟨u0, u1⟩ := k3 w8 hw
        try simp [Oper.looksAt, Op.operands, Call.operands, tput, frameW, Act.eval] at hf
        go_simp
      refine flow_yes_pure (.bool true) 9 true 47 rfl rfl (fun v w8 h8 => by simpa [tput] using h8) ?_ ?_
      · intro ρ w8 hr hw hf

        try simp [Oper.looksAt, Op.operands, Call.operands, tput, frameW, Act.eval] at hf
        go_simp
      refine flow_val rfl ?_
      apply Exists.intro
      apply And.intro
      · intro ρ w8 hr hf
        have r1 := hr.const
        have r2 := hr.func
        try simp [Oper.looksAt, Op.operands, Call.operands, tput, frameW, Act.eval] at hf
        go_simp
        try rfl
      refine flow_val rfl ?_
      apply Exists.intro
      apply And.intro
      · intro ρ w8 hr hf
        have r1 := hr.const
        have r2 := hr.func
        try simp [Oper.looksAt, Op.operands, Call.operands, tput, frameW, Act.eval] at hf
        go_simp
        try rfl
      refine flow_yes_val 18 true 56 rfl rfl (fun v w8 h8 => by simpa [tput] using h8) ?_
      apply Exists.intro
      apply And.intro
      · intro ρ w8 hr hf
        have r1 := hr.const
        have r2 := hr.func
        try simp [Oper.looksAt, Op.operands, Call.operands, tput, frameW, Act.eval] at hf
        go_simp
        try rfl
      refine flow_yes_val 18 true 56 rfl rfl (fun v w8 h8 => by simpa [tput] using h8) ?_
      apply Exists.intro
      apply And.intro
      · intro ρ w8 hr hf
        have r1 := hr.const
        have r2 := hr.func
        try simp [Oper.looksAt, Op.operands, Call.operands, tput, frameW, Act.eval] at hf
        go_simp
        try rfl
      refine flow_yes_val 18 true 56 rfl rfl (fun v w8 h8 => by simpa [tput] using h8) ?_
      apply Exists.intro
      apply And.intro
      · intro ρ w8 hr hf
        have r1 := hr.const
        have r2 := hr.func
        try simp [Oper.looksAt, Op.operands, Call.operands, tput, frameW, Act.eval] at hf
        go_simp
        try rfl
      refine flow_yes_pure (.int .i64 (q : Int)) 18 true 56 rfl rfl (fun v w8 h8 => by simpa [tput] using h8) ?_ ?_
      · intro ρ w8 hr hw hf
        obtain ⟨u0, u1⟩ := k3 w8 hw
        try simp [Oper.looksAt, Op.operands, Call.operands, tput, frameW, Act.eval] at hf
        go_simp
      refine flow_yes_pure (.bool false) 18 true 56 rfl rfl (fun v w8 h8 => by simpa [tput] using h8) ?_ ?_
      · intro ρ w8 hr hw hf
        have r1 := hr.const
        obtain ⟨z4, z5, z6⟩ := HQ.out
        try simp [Oper.looksAt, Op.operands, Call.operands, tput, frameW, Act.eval] at hf
        go_simp
      refine flow_yes_val 18 true 56 rfl rfl (fun v w8 h8 => by simpa [tput] using h8) ?_
      apply Exists.intro
      apply And.intro
      · intro ρ w8 hr hf
        have r1 := hr.const
        have r2 := hr.func
        try simp [Oper.looksAt, Op.operands, Call.operands, tput, frameW, Act.eval] at hf
        go_simp
        try rfl
      refine flow_yes_val 24 false 62 rfl rfl (fun v w8 h8 => by simpa [tput] using h8) ?_
      apply Exists.intro
      apply And.intro
      · intro ρ w8 hr hf
        have r1 := hr.const
        have r2 := hr.func
        try simp [Oper.looksAt, Op.operands, Call.operands, tput, frameW, Act.eval] at hf
        go_simp
        try rfl
      refine flow_yes (fun v _ => v = .int .i64 (K.length : Int)) 24 false 62 rfl rfl (fun v w8 h8 => by simpa [tput] using h8) (fun _ _ _ h _ => h) ?_ ?_
      · intro ρ w8 hr hw hf
        have r2 := hr.func
        simp [Oper.looksAt, Op.operands, Call.operands, tput, frameW, Act.eval] at hf
        have CN := hide (n5 w8 hw)
        go_simp
        refine ⟨Below.refl _ _, (unhide CN).mono ?_⟩
        rintro e w7 ⟨rfl, rfl⟩
        exact ⟨_, rfl, Below.refl _ _, rfl⟩
      refine flow_yes_val 24 false 62 rfl rfl (fun v w8 h8 => by simpa [tput] using h8) ?_
      apply Exists.intro
      apply And.intro
      · intro ρ w8 hr hf
        have r1 := hr.const
        have r2 := hr.func
        try simp [Oper.looksAt, Op.operands, Call.operands, tput, frameW, Act.eval] at hf
        go_simp
        try rfl
      refine flow_yes_val 24 false 62 rfl rfl (fun v w8 h8 => by simpa [tput] using h8) ?_
      apply Exists.intro
      apply And.intro
      · intro ρ w8 hr hf
        have r1 := hr.const
        have r2 := hr.func
        try simp [Oper.looksAt, Op.operands, Call.operands, tput, frameW, Act.eval] at hf
        go_simp
        try rfl
      refine flow_yes_val 24 false 62 rfl rfl (fun v w8 h8 => by simpa [tput] using h8) ?_
      apply Exists.intro
      apply And.intro
      · intro ρ w8 hr hf
        have r1 := hr.const
        have r2 := hr.func
        try simp [Oper.looksAt, Op.operands, Call.operands, tput, frameW, Act.eval] at hf
        go_simp
        try rfl
      refine flow_yes_pure (.slice A5 K.length c5) 24 false 62 rfl rfl (fun v w8 h8 => by simpa [tput] using h8) ?_ ?_
      · intro ρ w8 hr hw hf
        obtain ⟨u0, u1⟩ := k3 w8 hw
        try simp [Oper.looksAt, Op.operands, Call.operands, tput, frameW, Act.eval] at hf
        go_simp
      refine flow_yes_val 24 false 62 rfl rfl (fun v w8 h8 => by simpa [tput] using h8) ?_
      apply Exists.intro
      apply And.intro
      · intro ρ w8 hr hf
        have r1 := hr.const
        have r2 := hr.func
        try simp [Oper.looksAt, Op.operands, Call.operands, tput, frameW, Act.eval] at hf
        go_simp
        try rfl
      refine flow_yes_pure (.bool true) 24 false 62 rfl rfl (fun v w8 h8 => by simpa [tput] using h8) ?_ ?_
      · intro ρ w8 hr hw hf

        try simp [Oper.looksAt, Op.operands, Call.operands, tput, frameW, Act.eval] at hf
        go_simp
      refine flow_yes_val 18 true 56 rfl rfl (fun v w8 h8 => by simpa [tput] using h8) ?_
      apply Exists.intro
      apply And.intro
      · intro ρ w8 hr hf
        have r1 := hr.const
        have r2 := hr.func
        try simp [Oper.looksAt, Op.operands, Call.operands, tput, frameW, Act.eval] at hf
        go_simp
        try rfl
      refine flow_val rfl ?_
      apply Exists.intro
      apply And.intro
      · intro ρ w8 hr hf
        have r1 := hr.const
        have r2 := hr.func
        try simp [Oper.looksAt, Op.operands, Call.operands, tput, frameW, Act.eval] at hf
        go_simp
        try rfl
      refine flow_val rfl ?_
      apply Exists.intro
      apply And.intro
      · intro ρ w8 hr hf
        have r1 := hr.const
        have r2 := hr.func
        try simp [Oper.looksAt, Op.operands, Call.operands, tput, frameW, Act.eval] at hf
        go_simp
        try rfl
      refine flow_yes (fun v _ => v = .bool true) 35 true 73 rfl rfl (fun v w8 h8 => by simpa [tput] using h8) (fun _ _ _ h _ => h) ?_ ?_
      · intro ρ w8 hr hw hf
        have r2 := hr.func
        simp [Oper.looksAt, Op.operands, Call.operands, tput, frameW, Act.eval] at hf
        have CN := hide (n6 w8)
        go_simp
        refine ⟨Below.refl _ _, (unhide CN).mono ?_⟩
        rintro e w7 ⟨rfl, hb7⟩
        exact ⟨_, rfl, hb7, rfl⟩
      refine flow_val rfl ?_
      apply Exists.intro
      apply And.intro
      · intro ρ w8 hr hf
        have r1 := hr.const
        have r2 := hr.func
        try simp [Oper.looksAt, Op.operands, Call.operands, tput, frameW, Act.eval] at hf
        go_simp
        try rfl
      refine flow_val rfl ?_
      apply Exists.intro
      apply And.intro
      · intro ρ w8 hr hf
        have r1 := hr.const
        have r2 := hr.func
        try simp [Oper.looksAt, Op.operands, Call.operands, tput, frameW, Act.eval] at hf
        go_simp
        try rfl
      refine flow_nil ?_
      intro f w9 hb9 hf
      have g4 := hf 4; simp [tput, frameW, Act.eval] at g4
      rw [show frameOf f _ _ = ⟨#[f 0, f 1, f 2, f 3, f 4, f 5, f 6, f 7, f 8, f 9, f 10, f 11, f 12, f 13, f 14, f 15, f 16, f 17, f 18, f 19, f 20, f 21, f 22, f 23, f 24, f 25, f 26, f 27, f 28, f 29, f 30, f 31, f 32, f 33, f 34, f 35, f 36, f 37, f 38, f 39, f 40, f 41, f 42, f 43, f 44, f 45, f 46, f 47, f 48, f 49, f 50, f 51, f 52, f 53, f 54, f 55, f 56, f 57, f 58, f 59, f 60, f 61, f 62, f 63, f 64, f 65, f 66, f 67, f 68, f 69, f 70, f 71, f 72, f 73, f 74, f 75], []⟩ from rfl, g4]
      have hbz9 := hb12.trans (hb9.mono hb12.size)
      clear hf n1 n2 n3 n4 n5 n6 k1 k2 k3 hb9
      go_wp2
      go_ret
      exact ⟨rfl, hbz9⟩
    · have HQ : Hid (((q : Int) != 0) = true ∧ (¬ (q : Int) = 0) ∧ decide ((q : Int) ≠ 0) = true) := ⟨by rw [bne_iff_ne]; omega, by omega, decide_eq_true (by omega)⟩
      clear hq
      refine wp_region_flow (by kernel_rfl) (by kernel_rfl) (by kernel_rfl) ?_
      refine flow_val rfl ?_
      apply Exists.intro
      apply And.intro
      · intro ρ w8 hr hf
        have r1 := hr.const
        have r2 := hr.func
        try simp [Oper.looksAt, Op.operands, Call.operands, tput, frameW, Act.eval] at hf
        go_simp
        try rfl
      refine flow_step (BsW []) rfl (bsW_steady []) ?_ ?_
      · intro ρ w8 hr hw hf
        have r2 := hr.func
        simp [Oper.looksAt, Op.operands, Call.operands, tput, frameW, Act.eval] at hf
        have CN := hide (n1 w8 hw)
        go_simp
        refine ⟨Below.refl _ _, (unhide CN).mono ?_⟩
        rintro e w7 ⟨A7, c7, rfl, ho7, hb7⟩
        exact ⟨_, rfl, hb7, A7, c7, rfl, ho7.bs⟩
      refine flow_val rfl ?_
      apply Exists.intro
      apply And.intro
      · intro ρ w8 hr hf
        have r1 := hr.const
        have r2 := hr.func
        try simp [Oper.looksAt, Op.operands, Call.operands, tput, frameW, Act.eval] at hf
        go_simp
        try rfl
      refine flow_step (fun v _ => v = .bool true) rfl (fun _ _ _ h _ => h) ?_ ?_
      · intro ρ w8 hr hw hf
        have r2 := hr.func
        simp [Oper.looksAt, Op.operands, Call.operands, tput, frameW, Act.eval] at hf
        obtain ⟨⟨A8, c8, hf1, hb8⟩, hf2⟩ := hf
        have CN := hide (n2 w8 hw A8 c8 hb8)
        go_simp
        refine ⟨Below.refl _ _, (unhide CN).mono ?_⟩
        rintro e w7 ⟨rfl, hd7⟩
        exact ⟨_, rfl, drawn_below hd7, rfl⟩
      refine flow_val rfl ?_
      apply Exists.intro
      apply And.intro
      · intro ρ w8 hr hf
        have r1 := hr.const
        have r2 := hr.func
        try simp [Oper.looksAt, Op.operands, Call.operands, tput, frameW, Act.eval] at hf
        go_simp
        try rfl
      refine flow_yes_pure (.agg #[.int .i64 y1.kind, .int .u16 (y1.p.i : Int), .int .u32 (y1.p.k : Int), .int .u64 (y1.num : Int), .int .u64 (y1.vn : Int), .slice y1.A y1.n y1.c, .int .u64 (y1.x.id : Int), .slice y1.x.A y1.x.m y1.x.c, .slice y1.x.B y1.x.d y1.x.e, .slice y1.x.C y1.x.f y1.x.g]) 4 true 42 rfl rfl (fun v w8 h8 => by simpa [tput] using h8) ?_ ?_
      · intro ρ w8 hr hw hf
        obtain ⟨u0, u1, u2, u3, u4, u5, u6, u7, u8, u9⟩ := k1 w8 hw
        try simp [Oper.looksAt, Op.operands, Call.operands, tput, frameW, Act.eval] at hf
        go_simp
      refine flow_yes_pure (.agg #[.int .i64 y2.kind, .int .u16 (y2.p.i : Int), .int .u32 (y2.p.k : Int), .int .u64 (y2.num : Int), .int .u64 (y2.vn : Int), .slice y2.A y2.n y2.c, .int .u64 (y2.x.id : Int), .slice y2.x.A y2.x.m y2.x.c, .slice y2.x.B y2.x.d y2.x.e, .slice y2.x.C y2.x.f y2.x.g]) 4 true 42 rfl rfl (fun v w8 h8 => by simpa [tput] using h8) ?_ ?_
      · intro ρ w8 hr hw hf
        obtain ⟨u0, u1, u2, u3, u4, u5, u6, u7, u8, u9⟩ := k2 w8 hw
        try simp [Oper.looksAt, Op.operands, Call.operands, tput, frameW, Act.eval] at hf
        go_simp
      refine flow_yes (fun v _ => v = .bool true) 4 true 42 rfl rfl (fun v w8 h8 => by simpa [tput] using h8) (fun _ _ _ h _ => h) ?_ ?_
      · intro ρ w8 hr hw hf
        have r2 := hr.func
        simp [Oper.looksAt, Op.operands, Call.operands, tput, frameW, Act.eval] at hf
        have CN := hide (n3 w8 hw)
        go_simp
        refine ⟨Below.refl _ _, (unhide CN).mono ?_⟩
        rintro e w7 ⟨rfl, hb7⟩
        exact ⟨_, rfl, hb7, rfl⟩
      refine flow_val rfl ?_
      apply Exists.intro
      apply And.intro
      · intro ρ w8 hr hf
        have r1 := hr.const
        have r2 := hr.func
        try simp [Oper.looksAt, Op.operands, Call.operands, tput, frameW, Act.eval] at hf
        go_simp
        try rfl
      refine flow_val rfl ?_
      apply Exists.intro
      apply And.intro
      · intro ρ w8 hr hf
        have r1 := hr.const
        have r2 := hr.func
        try simp [Oper.looksAt, Op.operands, Call.operands, tput, frameW, Act.eval] at hf
        go_simp
        try rfl
      refine flow_yes_val 9 true 47 rfl rfl (fun v w8 h8 => by simpa [tput] using h8) ?_
      apply Exists.intro
      apply And.intro
      · intro ρ w8 hr hf
        have r1 := hr.const
        have r2 := hr.func
        try simp [Oper.looksAt, Op.operands, Call.operands, tput, frameW, Act.eval] at hf
        go_simp
        try rfl
      refine flow_yes (fun v _ => v = .int .i64 (q : Int)) 9 true 47 rfl rfl (fun v w8 h8 => by simpa [tput] using h8) (fun _ _ _ h _ => h) ?_ ?_
      · intro ρ w8 hr hw hf
        have r2 := hr.func
        simp [Oper.looksAt, Op.operands, Call.operands, tput, frameW, Act.eval] at hf
        have CN := hide (n4 w8 hw)
        go_simp
        refine ⟨Below.refl _ _, (unhide CN).mono ?_⟩
        rintro e w7 ⟨rfl, rfl⟩
        exact ⟨_, rfl, Below.refl _ _, rfl⟩
      refine flow_yes_val 9 true 47 rfl rfl (fun v w8 h8 => by simpa [tput] using h8) ?_
      apply Exists.intro
      apply And.intro
      · intro ρ w8 hr hf
        have r1 := hr.const
        have r2 := hr.func
        try simp [Oper.looksAt, Op.operands, Call.operands, tput, frameW, Act.eval] at hf
        go_simp
        try rfl
      refine flow_yes_val 9 true 47 rfl rfl (fun v w8 h8 => by simpa [tput] using h8) ?_
      apply Exists.intro
      apply And.intro
      · intro ρ w8 hr hf
        have r1 := hr.const
        have r2 := hr.func
        try simp [Oper.looksAt, Op.operands, Call.operands, tput, frameW, Act.eval] at hf
        go_simp
        try rfl
      refine flow_yes_val 9 true 47 rfl rfl (fun v w8 h8 => by simpa [tput] using h8) ?_
      apply Exists.intro
      apply And.intro
      · intro ρ w8 hr hf
        have r1 := hr.const
        have r2 := hr.func
        try simp [Oper.looksAt, Op.operands, Call.operands, tput, frameW, Act.eval] at hf
        go_simp
        try rfl
      refine flow_yes_pure (.int .i64 (q : Int)) 9 true 47 rfl rfl (fun v w8 h8 => by simpa [tput] using h8) ?_ ?_
      · intro ρ w8 hr hw hf
        obtain ⟨u0, u1⟩ := k3 w8 hw
        try simp [Oper.looksAt, Op.operands, Call.operands, tput, frameW, Act.eval] at hf
        go_simp
      refine flow_yes_pure (.bool true) 9 true 47 rfl rfl (fun v w8 h8 => by simpa [tput] using h8) ?_ ?_
      · intro ρ w8 hr hw hf

        try simp [Oper.looksAt, Op.operands, Call.operands, tput, frameW, Act.eval] at hf
        go_simp
      refine flow_val rfl ?_
      apply Exists.intro
      apply And.intro
      · intro ρ w8 hr hf
        have r1 := hr.const
        have r2 := hr.func
        try simp [Oper.looksAt, Op.operands, Call.operands, tput, frameW, Act.eval] at hf
        go_simp
        try rfl
      refine flow_val rfl ?_
      apply Exists.intro
      apply And.intro
      · intro ρ w8 hr hf
        have r1 := hr.const
        have r2 := hr.func
        try simp [Oper.looksAt, Op.operands, Call.operands, tput, frameW, Act.eval] at hf
        go_simp
        try rfl
      refine flow_yes_val 18 true 56 rfl rfl (fun v w8 h8 => by simpa [tput] using h8) ?_
      apply Exists.intro
      apply And.intro
      · intro ρ w8 hr hf
        have r1 := hr.const
        have r2 := hr.func
        try simp [Oper.looksAt, Op.operands, Call.operands, tput, frameW, Act.eval] at hf
        go_simp
        try rfl
      refine flow_yes_val 18 true 56 rfl rfl (fun v w8 h8 => by simpa [tput] using h8) ?_
      apply Exists.intro
      apply And.intro
      · intro ρ w8 hr hf
        have r1 := hr.const
        have r2 := hr.func
        try simp [Oper.looksAt, Op.operands, Call.operands, tput, frameW, Act.eval] at hf
        go_simp
        try rfl
      refine flow_yes_val 18 true 56 rfl rfl (fun v w8 h8 => by simpa [tput] using h8) ?_
      apply Exists.intro
      apply And.intro
      · intro ρ w8 hr hf
        have r1 := hr.const
        have r2 := hr.func
        try simp [Oper.looksAt, Op.operands, Call.operands, tput, frameW, Act.eval] at hf
        go_simp
        try rfl
      refine flow_yes_pure (.int .i64 (q : Int)) 18 true 56 rfl rfl (fun v w8 h8 => by simpa [tput] using h8) ?_ ?_
      · intro ρ w8 hr hw hf
        obtain ⟨u0, u1⟩ := k3 w8 hw
        try simp [Oper.looksAt, Op.operands, Call.operands, tput, frameW, Act.eval] at hf
        go_simp
      refine flow_yes_pure (.bool true) 18 true 56 rfl rfl (fun v w8 h8 => by simpa [tput] using h8) ?_ ?_
      · intro ρ w8 hr hw hf
        have r1 := hr.const
        obtain ⟨z4, z5, z6⟩ := HQ.out
        try simp [Oper.looksAt, Op.operands, Call.operands, tput, frameW, Act.eval] at hf
        go_simp
      refine flow_yes_val 18 true 56 rfl rfl (fun v w8 h8 => by simpa [tput] using h8) ?_
      apply Exists.intro
      apply And.intro
      · intro ρ w8 hr hf
        have r1 := hr.const
        have r2 := hr.func
        try simp [Oper.looksAt, Op.operands, Call.operands, tput, frameW, Act.eval] at hf
        go_simp
        try rfl
      refine flow_no 24 false 62 rfl rfl (fun v w8 h8 => by simpa [tput] using h8) ?_
      refine flow_no 24 false 62 rfl rfl (fun v w8 h8 => by simpa [tput] using h8) ?_
      refine flow_no 24 false 62 rfl rfl (fun v w8 h8 => by simpa [tput] using h8) ?_
      refine flow_no 24 false 62 rfl rfl (fun v w8 h8 => by simpa [tput] using h8) ?_
      refine flow_no 24 false 62 rfl rfl (fun v w8 h8 => by simpa [tput] using h8) ?_
      refine flow_no 24 false 62 rfl rfl (fun v w8 h8 => by simpa [tput] using h8) ?_
      refine flow_no 24 false 62 rfl rfl (fun v w8 h8 => by simpa [tput] using h8) ?_
      refine flow_no 24 false 62 rfl rfl (fun v w8 h8 => by simpa [tput] using h8) ?_
      refine flow_yes_val 18 true 56 rfl rfl (fun v w8 h8 => by simpa [tput] using h8) ?_
      apply Exists.intro
      apply And.intro
      · intro ρ w8 hr hf
        have r1 := hr.const
        have r2 := hr.func
        try simp [Oper.looksAt, Op.operands, Call.operands, tput, frameW, Act.eval] at hf
        go_simp
        try rfl
      refine flow_val rfl ?_
      apply Exists.intro
      apply And.intro
      · intro ρ w8 hr hf
        have r1 := hr.const
        have r2 := hr.func
        try simp [Oper.looksAt, Op.operands, Call.operands, tput, frameW, Act.eval] at hf
        go_simp
        try rfl
      refine flow_val rfl ?_
      apply Exists.intro
      apply And.intro
      · intro ρ w8 hr hf
        have r1 := hr.const
        have r2 := hr.func
        try simp [Oper.looksAt, Op.operands, Call.operands, tput, frameW, Act.eval] at hf
        go_simp
        try rfl
      refine flow_yes (fun v _ => v = .bool true) 35 true 73 rfl rfl (fun v w8 h8 => by simpa [tput] using h8) (fun _ _ _ h _ => h) ?_ ?_
      · intro ρ w8 hr hw hf
        have r2 := hr.func
        simp [Oper.looksAt, Op.operands, Call.operands, tput, frameW, Act.eval] at hf
        have CN := hide (n6 w8)
        go_simp
        refine ⟨Below.refl _ _, (unhide CN).mono ?_⟩
        rintro e w7 ⟨rfl, hb7⟩
        exact ⟨_, rfl, hb7, rfl⟩
      refine flow_val rfl ?_
      apply Exists.intro
      apply And.intro
      · intro ρ w8 hr hf
        have r1 := hr.const
        have r2 := hr.func
        try simp [Oper.looksAt, Op.operands, Call.operands, tput, frameW, Act.eval] at hf
        go_simp
        try rfl
      refine flow_val rfl ?_
      apply Exists.intro
      apply And.intro
      · intro ρ w8 hr hf
        have r1 := hr.const
        have r2 := hr.func
        try simp [Oper.looksAt, Op.operands, Call.operands, tput, frameW, Act.eval] at hf
        go_simp
        try rfl
      refine flow_nil ?_
      intro f w9 hb9 hf
      have g4 := hf 4; simp [tput, frameW, Act.eval] at g4
      rw [show frameOf f _ _ = ⟨#[f 0, f 1, f 2, f 3, f 4, f 5, f 6, f 7, f 8, f 9, f 10, f 11, f 12, f 13, f 14, f 15, f 16, f 17, f 18, f 19, f 20, f 21, f 22, f 23, f 24, f 25, f 26, f 27, f 28, f 29, f 30, f 31, f 32, f 33, f 34, f 35, f 36, f 37, f 38, f 39, f 40, f 41, f 42, f 43, f 44, f 45, f 46, f 47, f 48, f 49, f 50, f 51, f 52, f 53, f 54, f 55, f 56, f 57, f 58, f 59, f 60, f 61, f 62, f 63, f 64, f 65, f 66, f 67, f 68, f 69, f 70, f 71, f 72, f 73, f 74, f 75], []⟩ from rfl, g4]
      have hbz9 := hb12.trans (hb9.mono hb12.size)
      clear hf n1 n2 n3 n4 n5 n6 k1 k2 k3 hb9
      go_wp2
      go_ret
      exact ⟨rfl, hbz9⟩
  have hmx := cm.1 hr
  obtain rfl : L = formC x.m := HL.out.1 hmx
  subst hr
  clear cm
  go_wp2_with fail
  refine ck.mono ?_
  rintro e w55 ⟨rfl, hb⟩
  have hb55 := hb5.trans (hb.mono hb5.size)
  have k55 := k5.later hb
  have v55 := v05.later hb
  have cf := rform9_any x w.heap.size w55 (h.below hb55) hs hb55.size hmx
  clear ck hb hb5 v05 k5 HL j0 j1 j2 j3 j4 j5 j6 j7 j8 j9
  obtain ⟨j0, j1, j2, j3, j4, j5, j6, j7, j8, j9⟩ := v55.cells
  generalize formC x.m = L at *
  go_wp2_with fail
  refine cf.mono ?_
  rintro e w6 ⟨A6, c6, rfl, ho6, hb⟩
  have hb6 := hb55.trans (hb.mono hb55.size)
  have k6 := k55.later hb
  have hB6 := ho6.bs
  clear cf hb hb55 v55 k55 ho6
  have rd := read_any A l.length c l w.heap.size w6 (hA.below hb6) hb6.size (by omega)
  go_wp2_with fail
  refine rd.mono ?_
  rintro e w7 ⟨b1, rfl, hlo, hr7, hb⟩
  have hb7 := hb6.trans (hb.mono hb6.size)
  have hb1 := hr7.lt
  have hbl : Below w7.heap.size w7 (w7.alloc (.cells #[.slice A l.length c, .int .i64 0] 46)) := (Below.refl _ _).alloc (Nat.le_refl _) _
  have hr8 := hr7.later hbl
  have q8 := hb.trans (hbl.mono hb.size)
  have hb8 := hb7.trans (hbl.mono hb7.size)
  have row8 : (w7.alloc (.cells #[.slice A l.length c, .int .i64 0] 46)).heap[w7.heap.size]? = some (.cells #[.slice A l.length c, .int .i64 0] 46) := heap_alloc_new w7 _
  have sz8 : (w7.alloc (.cells #[.slice A l.length c, .int .i64 0] 46)).heap.size = w7.heap.size + 1 := by simp
  clear rd hb hbl hr7 j0 j1 j2 j3 j4 j5 j6 j7 j8 j9
  go_wp2_with fail
  generalize (w7.alloc (.cells #[.slice A l.length c, .int .i64 0] 46)) = w8 at *
  have cg1 := cget_tot b1 ⟨l, 0⟩ w8 hr8 (by show l.length ≤ _; omega)
  unfold CGetT at cg1
  refine cg1.mono ?_
  rintro e w9 ⟨y1, rfl, hm1, ho1, hs1, hn1, hr9, ht9⟩
  have q9 := q8.trans (ht9.below q8.size hlo (fun g hg => by cases hg))
  have hb9 := hb6.trans (q9.mono hb6.size)
  have rf9 : RfAt w9 w7.heap.size l 0 := ⟨A, c, (ht9.block w7.heap.size (by omega) (by omega) (by simp)).trans row8, (hA.below hb9).more hb7.size, hnc, hcm⟩
  have s9 := ht9.size
  have cg2 := xcmd_tot w7.heap.size ⟨l, 0⟩ w9 rf9
  unfold CGetF at cg2
  clear cg1 q8 hr8 row8 ht9 rf9 hb8
  go_wp2_with fail
  refine cg2.mono ?_
  rintro e w10 ⟨y2, rfl, hm2, ho2, hs2, hn2, rf10, ht10⟩
  have q10 := q9.trans (ht10.below q9.size (by omega) (fun g hg => by cases hg))
  have hr10 := hr9.turn ht10 hb1 (fun g hg => by cases hg)
  have ho1' := ho1.turnLow ht10 (by omega)
  have s10 := ht10.size
  have hlz : Below w10.heap.size w10 ((w10.alloc (.cells #[.int .i64 y1.kind, .int .u16 (y1.p.i : Int), .int .u32 (y1.p.k : Int), .int .u64 (y1.num : Int), .int .u64 (y1.vn : Int), .slice y1.A y1.n y1.c, .int .u64 (y1.x.id : Int), .slice y1.x.A y1.x.m y1.x.c, .slice y1.x.B y1.x.d y1.x.e, .slice y1.x.C y1.x.f y1.x.g] 33)).alloc (.cells #[.int .i64 y2.kind, .int .u16 (y2.p.i : Int), .int .u32 (y2.p.k : Int), .int .u64 (y2.num : Int), .int .u64 (y2.vn : Int), .slice y2.A y2.n y2.c, .int .u64 (y2.x.id : Int), .slice y2.x.A y2.x.m y2.x.c, .slice y2.x.B y2.x.d y2.x.e, .slice y2.x.C y2.x.f y2.x.g] 33)) := ((Below.refl _ _).alloc (Nat.le_refl _) _).alloc (by simp) _
  have vy := (CAt.mk_ w10 y1).alloc (.cells #[.int .i64 y2.kind, .int .u16 (y2.p.i : Int), .int .u32 (y2.p.k : Int), .int .u64 (y2.num : Int), .int .u64 (y2.vn : Int), .slice y2.A y2.n y2.c, .int .u64 (y2.x.id : Int), .slice y2.x.A y2.x.m y2.x.c, .slice y2.x.B y2.x.d y2.x.e, .slice y2.x.C y2.x.f y2.x.g] 33)
  have vz := CAt.mk_ (w10.alloc (.cells #[.int .i64 y1.kind, .int .u16 (y1.p.i : Int), .int .u32 (y1.p.k : Int), .int .u64 (y1.num : Int), .int .u64 (y1.vn : Int), .slice y1.A y1.n y1.c, .int .u64 (y1.x.id : Int), .slice y1.x.A y1.x.m y1.x.c, .slice y1.x.B y1.x.d y1.x.e, .slice y1.x.C y1.x.f y1.x.g] 33)) y2
  simp only [World.size_alloc] at vz
  have q12 := q10.trans (hlz.mono q10.size)
  have hb12 := hb6.trans (q12.mono hb6.size)
  have hr12 := hr10.later hlz
  have rf12 := rf10.later hlz
  have iy := (ho1'.later hlz).in_ hn1
  have iz := (ho2.later hlz).in_ hn2
  clear cg2 q9 q10 hr9 hr10 ht10 rf10 ho1 ho1' ho2 hlz hb9
  go_wp2_with fail
  generalize ((w10.alloc (.cells #[.int .i64 y1.kind, .int .u16 (y1.p.i : Int), .int .u32 (y1.p.k : Int), .int .u64 (y1.num : Int), .int .u64 (y1.vn : Int), .slice y1.A y1.n y1.c, .int .u64 (y1.x.id : Int), .slice y1.x.A y1.x.m y1.x.c, .slice y1.x.B y1.x.d y1.x.e, .slice y1.x.C y1.x.f y1.x.g] 33)).alloc (.cells #[.int .i64 y2.kind, .int .u16 (y2.p.i : Int), .int .u32 (y2.p.k : Int), .int .u64 (y2.num : Int), .int .u64 (y2.vn : Int), .slice y2.A y2.n y2.c, .int .u64 (y2.x.id : Int), .slice y2.x.A y2.x.m y2.x.c, .slice y2.x.B y2.x.d y2.x.e, .slice y2.x.C y2.x.f y2.x.g] 33)) = w12 at *
  generalize (cmdS ⟨l, 0⟩) = R at *
  obtain ⟨M, ⟨K, q⟩⟩ := R
  dsimp only at hm1 hm2 hr12 rf12
  obtain ⟨A5, c5, sl12⟩ := rf12
  have k12 := k6.later q12
  have B12 := hB6.below q12
  have n1 := fun W (hW : Below w12.heap.size w12 W) => wdone_any w3.heap.size w3.heap.size mg L W (k12.later hW) (by omega)
  have n2 := fun W (hW : Below w12.heap.size w12 W) A8 c8 (h8 : Bs W W.heap.size A8 L.length L) => same_eq A8 A6 L.length L.length c8 c6 L L W.heap.size w6.heap.size W h8 (B12.below (hW.mono q12.size)) (by unfold maxLen; omega) rfl
  have n3 := fun W (hW : Below w12.heap.size w12 W) => rcsame_any y1 y2 w12.heap.size w12.heap.size W true (iy.below hW) (iz.below hW) hW.size hW.size ⟨fun _ => hm1.trans hm2.symm, fun _ => rfl⟩
  have n4 := fun W (hW : Below w12.heap.size w12 W) => err_any b1 K q W (hr12.later hW)
  have n5 := fun W (hW : Below w12.heap.size w12 W) => left_any b1 K q W (hr12.later hW)
  have n6 := fun W => awake9_any W
  have k1 := fun W (hW : Below w12.heap.size w12 W) => (vy.later hW).cells
  have k2 := fun W (hW : Below w12.heap.size w12 W) => (vz.later hW).cells
  have k3 := fun W (hW : Below w12.heap.size w12 W) => (sl12.later hW).cells
  clear k12 B12 iy iz hr12 sl12 vy vz hm1 hm2 hs1 hs2 hn1 hn2 k6 hB6 hA
  by_cases hq : q = 0
  · have HQ : Hid (((q : Int) != 0) = false ∧ (q : Int) = 0 ∧ decide ((q : Int) ≠ 0) = false) := ⟨by rw [hq]; rfl, by omega, decide_eq_false (by omega)⟩
    clear hq
    refine wp_region_flow (by kernel_rfl) (by kernel_rfl) (by kernel_rfl) ?_
    refine flow_val rfl ?_
    apply Exists.intro
    apply And.intro
    · intro ρ w8 hr hf
      have r1 := hr.const
      have r2 := hr.func
      try simp [Oper.looksAt, Op.operands, Call.operands, tput, frameW, Act.eval] at hf
      go_simp
      try rfl
    refine flow_step (BsW L) rfl (bsW_steady L) ?_ ?_
    · intro ρ w8 hr hw hf
      have r2 := hr.func
      simp [Oper.looksAt, Op.operands, Call.operands, tput, frameW, Act.eval] at hf
      have CN := hide (n1 w8 hw)
      go_simp
      refine ⟨Below.refl _ _, (unhide CN).mono ?_⟩
      rintro e w7 ⟨A7, c7, rfl, ho7, hb7⟩
      exact ⟨_, rfl, hb7, A7, c7, rfl, ho7.bs⟩
    refine flow_val rfl ?_
    apply Exists.intro
    apply And.intro
    · intro ρ w8 hr hf
      have r1 := hr.const
      have r2 := hr.func
      try simp [Oper.looksAt, Op.operands, Call.operands, tput, frameW, Act.eval] at hf
      go_simp
      try rfl
    refine flow_step (fun v _ => v = .bool true) rfl (fun _ _ _ h _ => h) ?_ ?_
    · intro ρ w8 hr hw hf
      have r2 := hr.func
      simp [Oper.looksAt, Op.operands, Call.operands, tput, frameW, Act.eval] at hf
      obtain ⟨⟨A8, c8, hf1, hb8⟩, hf2⟩ := hf
      have CN := hide (n2 w8 hw A8 c8 hb8)
      go_simp
      refine ⟨Below.refl _ _, (unhide CN).mono ?_⟩
      rintro e w7 ⟨rfl, hd7⟩
      exact ⟨_, rfl, drawn_below hd7, rfl⟩
    refine flow_val rfl ?_
    apply Exists.intro
    apply And.intro
    · intro ρ w8 hr hf
      have r1 := hr.const
      have r2 := hr.func
      try simp [Oper.looksAt, Op.operands, Call.operands, tput, frameW, Act.eval] at hf
      go_simp
      try rfl
    refine flow_yes_pure (.agg #[.int .i64 y1.kind, .int .u16 (y1.p.i : Int), .int .u32 (y1.p.k : Int), .int .u64 (y1.num : Int), .int .u64 (y1.vn : Int), .slice y1.A y1.n y1.c, .int .u64 (y1.x.id : Int), .slice y1.x.A y1.x.m y1.x.c, .slice y1.x.B y1.x.d y1.x.e, .slice y1.x.C y1.x.f y1.x.g]) 4 true 42 rfl rfl (fun v w8 h8 => by simpa [tput] using h8) ?_ ?_
    · intro ρ w8 hr hw hf
      obtain ⟨u0, u1, u2, u3, u4, u5, u6, u7, u8, u9⟩ := k1 w8 hw
      try simp [Oper.looksAt, Op.operands, Call.operands, tput, frameW, Act.eval] at hf
      go_simp
    refine flow_yes_pure (.agg #[.int .i64 y2.kind, .int .u16 (y2.p.i : Int), .int .u32 (y2.p.k : Int), .int .u64 (y2.num : Int), .int .u64 (y2.vn : Int), .slice y2.A y2.n y2.c, .int .u64 (y2.x.id : Int), .slice y2.x.A y2.x.m y2.x.c, .slice y2.x.B y2.x.d y2.x.e, .slice y2.x.C y2.x.f y2.x.g]) 4 true 42 rfl rfl (fun v w8 h8 => by simpa [tput] using h8) ?_ ?_
    · intro ρ w8 hr hw hf
      obtain ⟨u0, u1, u2, u3, u4, u5, u6, u7, u8, u9⟩ := k2 w8 hw
      try simp [Oper.looksAt, Op.operands, Call.operands, tput, frameW, Act.eval] at hf
      go_simp
    refine flow_yes (fun v _ => v = .bool true) 4 true 42 rfl rfl (fun v w8 h8 => by simpa [tput] using h8) (fun _ _ _ h _ => h) ?_ ?_
    · intro ρ w8 hr hw hf
      have r2 := hr.func
      simp [Oper.looksAt, Op.operands, Call.operands, tput, frameW, Act.eval] at hf
      have CN := hide (n3 w8 hw)
      go_simp
      refine ⟨Below.refl _ _, (unhide CN).mono ?_⟩
      rintro e w7 ⟨rfl, hb7⟩
      exact ⟨_, rfl, hb7, rfl⟩
    refine flow_val rfl ?_
    apply Exists.intro
    apply And.intro
    · intro ρ w8 hr hf
      have r1 := hr.const
      have r2 := hr.func
      try simp [Oper.looksAt, Op.operands, Call.operands, tput, frameW, Act.eval] at hf
      go_simp
      try rfl
    refine flow_val rfl ?_
    apply Exists.intro
    apply And.intro
    · intro ρ w8 hr hf
      have r1 := hr.const
      have r2 := hr.func
      try simp [Oper.looksAt, Op.operands, Call.operands, tput, frameW, Act.eval] at hf
      go_simp
      try rfl
    refine flow_yes_val 9 true 47 rfl rfl (fun v w8 h8 => by simpa [tput] using h8) ?_
    apply Exists.intro
    apply And.intro
    · intro ρ w8 hr hf
      have r1 := hr.const
      have r2 := hr.func
      try simp [Oper.looksAt, Op.operands, Call.operands, tput, frameW, Act.eval] at hf
      go_simp
      try rfl
    refine flow_yes (fun v _ => v = .int .i64 (q : Int)) 9 true 47 rfl rfl (fun v w8 h8 => by simpa [tput] using h8) (fun _ _ _ h _ => h) ?_ ?_
    · intro ρ w8 hr hw hf
      have r2 := hr.func
      simp [Oper.looksAt, Op.operands, Call.operands, tput, frameW, Act.eval] at hf
      have CN := hide (n4 w8 hw)
      go_simp
      refine ⟨Below.refl _ _, (unhide CN).mono ?_⟩
      rintro e w7 ⟨rfl, rfl⟩
      exact ⟨_, rfl, Below.refl _ _, rfl⟩
    refine flow_yes_val 9 true 47 rfl rfl (fun v w8 h8 => by simpa [tput] using h8) ?_
    apply Exists.intro
    apply And.intro
    · intro ρ w8 hr hf
      have r1 := hr.const
      have r2 := hr.func
      try simp [Oper.looksAt, Op.operands, Call.operands, tput, frameW, Act.eval] at hf
      go_simp
      try rfl
    refine flow_yes_val 9 true 47 rfl rfl (fun v w8 h8 => by simpa [tput] using h8) ?_
    apply Exists.intro
    apply And.intro
    · intro ρ w8 hr hf
      have r1 := hr.const
      have r2 := hr.func
      try simp [Oper.looksAt, Op.operands, Call.operands, tput, frameW, Act.eval] at hf
      go_simp
      try rfl
    refine flow_yes_val 9 true 47 rfl rfl (fun v w8 h8 => by simpa [tput] using h8) ?_
    apply Exists.intro
    apply And.intro
    · intro ρ w8 hr hf
      have r1 := hr.const
      have r2 := hr.func
      try simp [Oper.looksAt, Op.operands, Call.operands, tput, frameW, Act.eval] at hf
      go_simp
      try rfl
    refine flow_yes_pure (.int .i64 (q : Int)) 9 true 47 rfl rfl (fun v w8 h8 => by simpa [tput] using h8) ?_ ?_
    · intro ρ w8 hr hw hf
      obtain ⟨u0, u1⟩ := k3 w8 hw
      try simp [Oper.looksAt, Op.operands, Call.operands, tput, frameW, Act.eval] at hf
      go_simp
    refine flow_yes_pure (.bool true) 9 true 47 rfl rfl (fun v w8 h8 => by simpa [tput] using h8) ?_ ?_
    · intro ρ w8 hr hw hf

      try simp [Oper.looksAt, Op.operands, Call.operands, tput, frameW, Act.eval] at hf
      go_simp
    refine flow_val rfl ?_
    apply Exists.intro
    apply And.intro
    · intro ρ w8 hr hf
      have r1 := hr.const
      have r2 := hr.func
      try simp [Oper.looksAt, Op.operands, Call.operands, tput, frameW, Act.eval] at hf
      go_simp
      try rfl
    refine flow_val rfl ?_
    apply Exists.intro
    apply And.intro
    · intro ρ w8 hr hf
      have r1 := hr.const
      have r2 := hr.func
      try simp [Oper.looksAt, Op.operands, Call.operands, tput, frameW, Act.eval] at hf
      go_simp
      try rfl
    refine flow_yes_val 18 true 56 rfl rfl (fun v w8 h8 => by simpa [tput] using h8) ?_
    apply Exists.intro
    apply And.intro
    · intro ρ w8 hr hf
      have r1 := hr.const
      have r2 := hr.func
      try simp [Oper.looksAt, Op.operands, Call.operands, tput, frameW, Act.eval] at hf
      go_simp
      try rfl
    refine flow_yes_val 18 true 56 rfl rfl (fun v w8 h8 => by simpa [tput] using h8) ?_
    apply Exists.intro
    apply And.intro
    · intro ρ w8 hr hf
      have r1 := hr.const
      have r2 := hr.func
      try simp [Oper.looksAt, Op.operands, Call.operands, tput, frameW, Act.eval] at hf
      go_simp
      try rfl
    refine flow_yes_val 18 true 56 rfl rfl (fun v w8 h8 => by simpa [tput] using h8) ?_
    apply Exists.intro
    apply And.intro
    · intro ρ w8 hr hf
      have r1 := hr.const
      have r2 := hr.func
      try simp [Oper.looksAt, Op.operands, Call.operands, tput, frameW, Act.eval] at hf
      go_simp
      try rfl
    refine flow_yes_pure (.int .i64 (q : Int)) 18 true 56 rfl rfl (fun v w8 h8 => by simpa [tput] using h8) ?_ ?_
    · intro ρ w8 hr hw hf
      obtain ⟨u0, u1⟩ := k3 w8 hw
      try simp [Oper.looksAt, Op.operands, Call.operands, tput, frameW, Act.eval] at hf
      go_simp
    refine flow_yes_pure (.bool false) 18 true 56 rfl rfl (fun v w8 h8 => by simpa [tput] using h8) ?_ ?_
    · intro ρ w8 hr hw hf
      have r1 := hr.const
      obtain ⟨z4, z5, z6⟩ := HQ.out
      try simp [Oper.looksAt, Op.operands, Call.operands, tput, frameW, Act.eval] at hf
      go_simp
    refine flow_yes_val 18 true 56 rfl rfl (fun v w8 h8 => by simpa [tput] using h8) ?_
    apply Exists.intro
    apply And.intro
    · intro ρ w8 hr hf
      have r1 := hr.const
      have r2 := hr.func
      try simp [Oper.looksAt, Op.operands, Call.operands, tput, frameW, Act.eval] at hf
      go_simp
      try rfl
    refine flow_yes_val 24 false 62 rfl rfl (fun v w8 h8 => by simpa [tput] using h8) ?_
    apply Exists.intro
    apply And.intro
    · intro ρ w8 hr hf
      have r1 := hr.const
      have r2 := hr.func
      try simp [Oper.looksAt, Op.operands, Call.operands, tput, frameW, Act.eval] at hf
      go_simp
      try rfl
    refine flow_yes (fun v _ => v = .int .i64 (K.length : Int)) 24 false 62 rfl rfl (fun v w8 h8 => by simpa [tput] using h8) (fun _ _ _ h _ => h) ?_ ?_
    · intro ρ w8 hr hw hf
      have r2 := hr.func
      simp [Oper.looksAt, Op.operands, Call.operands, tput, frameW, Act.eval] at hf
      have CN := hide (n5 w8 hw)
      go_simp
      refine ⟨Below.refl _ _, (unhide CN).mono ?_⟩
      rintro e w7 ⟨rfl, rfl⟩
      exact ⟨_, rfl, Below.refl _ _, rfl⟩
    refine flow_yes_val 24 false 62 rfl rfl (fun v w8 h8 => by simpa [tput] using h8) ?_
    apply Exists.intro
    apply And.intro
    · intro ρ w8 hr hf
      have r1 := hr.const
      have r2 := hr.func
      try simp [Oper.looksAt, Op.operands, Call.operands, tput, frameW, Act.eval] at hf
      go_simp
      try rfl
    refine flow_yes_val 24 false 62 rfl rfl (fun v w8 h8 => by simpa [tput] using h8) ?_
    apply Exists.intro
    apply And.intro
    · intro ρ w8 hr hf
      have r1 := hr.const
      have r2 := hr.func
      try simp [Oper.looksAt, Op.operands, Call.operands, tput, frameW, Act.eval] at hf
      go_simp
      try rfl
    refine flow_yes_val 24 false 62 rfl rfl (fun v w8 h8 => by simpa [tput] using h8) ?_
    apply Exists.intro
    apply And.intro
    · intro ρ w8 hr hf
      have r1 := hr.const
      have r2 := hr.func
      try simp [Oper.looksAt, Op.operands, Call.operands, tput, frameW, Act.eval] at hf
      go_simp
      try rfl
    refine flow_yes_pure (.slice A5 K.length c5) 24 false 62 rfl rfl (fun v w8 h8 => by simpa [tput] using h8) ?_ ?_
    · intro ρ w8 hr hw hf
      obtain ⟨u0, u1⟩ := k3 w8 hw
      try simp [Oper.looksAt, Op.operands, Call.operands, tput, frameW, Act.eval] at hf
      go_simp
    refine flow_yes_val 24 false 62 rfl rfl (fun v w8 h8 => by simpa [tput] using h8) ?_
    apply Exists.intro
    apply And.intro
    · intro ρ w8 hr hf
      have r1 := hr.const
      have r2 := hr.func
      try simp [Oper.looksAt, Op.operands, Call.operands, tput, frameW, Act.eval] at hf
      go_simp
      try rfl
    refine flow_yes_pure (.bool true) 24 false 62 rfl rfl (fun v w8 h8 => by simpa [tput] using h8) ?_ ?_
    · intro ρ w8 hr hw hf

      try simp [Oper.looksAt, Op.operands, Call.operands, tput, frameW, Act.eval] at hf
      go_simp
    refine flow_yes_val 18 true 56 rfl rfl (fun v w8 h8 => by simpa [tput] using h8) ?_
    apply Exists.intro
    apply And.intro
    · intro ρ w8 hr hf
      have r1 := hr.const
      have r2 := hr.func
      try simp [Oper.looksAt, Op.operands, Call.operands, tput, frameW, Act.eval] at hf
      go_simp
      try rfl
    refine flow_val rfl ?_
    apply Exists.intro
    apply And.intro
    · intro ρ w8 hr hf
      have r1 := hr.const
      have r2 := hr.func
      try simp [Oper.looksAt, Op.operands, Call.operands, tput, frameW, Act.eval] at hf
      go_simp
      try rfl
    refine flow_val rfl ?_
    apply Exists.intro
    apply And.intro
    · intro ρ w8 hr hf
      have r1 := hr.const
      have r2 := hr.func
      try simp [Oper.looksAt, Op.operands, Call.operands, tput, frameW, Act.eval] at hf
      go_simp
      try rfl
    refine flow_yes (fun v _ => v = .bool true) 35 true 73 rfl rfl (fun v w8 h8 => by simpa [tput] using h8) (fun _ _ _ h _ => h) ?_ ?_
    · intro ρ w8 hr hw hf
      have r2 := hr.func
      simp [Oper.looksAt, Op.operands, Call.operands, tput, frameW, Act.eval] at hf
      have CN := hide (n6 w8)
      go_simp
      refine ⟨Below.refl _ _, (unhide CN).mono ?_⟩
      rintro e w7 ⟨rfl, hb7⟩
      exact ⟨_, rfl, hb7, rfl⟩
    refine flow_val rfl ?_
    apply Exists.intro
    apply And.intro
    · intro ρ w8 hr hf
      have r1 := hr.const
      have r2 := hr.func
      try simp [Oper.looksAt, Op.operands, Call.operands, tput, frameW, Act.eval] at hf
      go_simp
      try rfl
    refine flow_val rfl ?_
    apply Exists.intro
    apply And.intro
    · intro ρ w8 hr hf
      have r1 := hr.const
      have r2 := hr.func
      try simp [Oper.looksAt, Op.operands, Call.operands, tput, frameW, Act.eval] at hf
      go_simp
      try rfl
    refine flow_nil ?_
    intro f w9 hb9 hf
    have g4 := hf 4; simp [tput, frameW, Act.eval] at g4
    rw [show frameOf f _ _ = ⟨#[f 0, f 1, f 2, f 3, f 4, f 5, f 6, f 7, f 8, f 9, f 10, f 11, f 12, f 13, f 14, f 15, f 16, f 17, f 18, f 19, f 20, f 21, f 22, f 23, f 24, f 25, f 26, f 27, f 28, f 29, f 30, f 31, f 32, f 33, f 34, f 35, f 36, f 37, f 38, f 39, f 40, f 41, f 42, f 43, f 44, f 45, f 46, f 47, f 48, f 49, f 50, f 51, f 52, f 53, f 54, f 55, f 56, f 57, f 58, f 59, f 60, f 61, f 62, f 63, f 64, f 65, f 66, f 67, f 68, f 69, f 70, f 71, f 72, f 73, f 74, f 75], []⟩ from rfl, g4]
    have hbz9 := hb12.trans (hb9.mono hb12.size)
    clear hf n1 n2 n3 n4 n5 n6 k1 k2 k3 hb9
    go_wp2
    go_ret
    exact ⟨rfl, hbz9⟩
  · have HQ : Hid (((q : Int) != 0) = true ∧ (¬ (q : Int) = 0) ∧ decide ((q : Int) ≠ 0) = true) := ⟨by rw [bne_iff_ne]; omega, by omega, decide_eq_true (by omega)⟩
    clear hq
    refine wp_region_flow (by kernel_rfl) (by kernel_rfl) (by kernel_rfl) ?_
    refine flow_val rfl ?_
    apply Exists.intro
    apply And.intro
    · intro ρ w8 hr hf
      have r1 := hr.const
      have r2 := hr.func
      try simp [Oper.looksAt, Op.operands, Call.operands, tput, frameW, Act.eval] at hf
      go_simp
      try rfl
    refine flow_step (BsW L) rfl (bsW_steady L) ?_ ?_
    · intro ρ w8 hr hw hf
      have r2 := hr.func
      simp [Oper.looksAt, Op.operands, Call.operands, tput, frameW, Act.eval] at hf
      have CN := hide (n1 w8 hw)
      go_simp
      refine ⟨Below.refl _ _, (unhide CN).mono ?_⟩
      rintro e w7 ⟨A7, c7, rfl, ho7, hb7⟩
      exact ⟨_, rfl, hb7, A7, c7, rfl, ho7.bs⟩
    refine flow_val rfl ?_
    apply Exists.intro
    apply And.intro
    · intro ρ w8 hr hf
      have r1 := hr.const
      have r2 := hr.func
      try simp [Oper.looksAt, Op.operands, Call.operands, tput, frameW, Act.eval] at hf
      go_simp
      try rfl
    refine flow_step (fun v _ => v = .bool true) rfl (fun _ _ _ h _ => h) ?_ ?_
    · intro ρ w8 hr hw hf
      have r2 := hr.func
      simp [Oper.looksAt, Op.operands, Call.operands, tput, frameW, Act.eval] at hf
      obtain ⟨⟨A8, c8, hf1, hb8⟩, hf2⟩ := hf
      have CN := hide (n2 w8 hw A8 c8 hb8)
      go_simp
      refine ⟨Below.refl _ _, (unhide CN).mono ?_⟩
      rintro e w7 ⟨rfl, hd7⟩
      exact ⟨_, rfl, drawn_below hd7, rfl⟩
    refine flow_val rfl ?_
    apply Exists.intro
    apply And.intro
    · intro ρ w8 hr hf
      have r1 := hr.const
      have r2 := hr.func
      try simp [Oper.looksAt, Op.operands, Call.operands, tput, frameW, Act.eval] at hf
      go_simp
      try rfl
    refine flow_yes_pure (.agg #[.int .i64 y1.kind, .int .u16 (y1.p.i : Int), .int .u32 (y1.p.k : Int), .int .u64 (y1.num : Int), .int .u64 (y1.vn : Int), .slice y1.A y1.n y1.c, .int .u64 (y1.x.id : Int), .slice y1.x.A y1.x.m y1.x.c, .slice y1.x.B y1.x.d y1.x.e, .slice y1.x.C y1.x.f y1.x.g]) 4 true 42 rfl rfl (fun v w8 h8 => by simpa [tput] using h8) ?_ ?_
    · intro ρ w8 hr hw hf
      obtain ⟨u0, u1, u2, u3, u4, u5, u6, u7, u8, u9⟩ := k1 w8 hw
      try simp [Oper.looksAt, Op.operands, Call.operands, tput, frameW, Act.eval] at hf
      go_simp
    refine flow_yes_pure (.agg #[.int .i64 y2.kind, .int .u16 (y2.p.i : Int), .int .u32 (y2.p.k : Int), .int .u64 (y2.num : Int), .int .u64 (y2.vn : Int), .slice y2.A y2.n y2.c, .int .u64 (y2.x.id : Int), .slice y2.x.A y2.x.m y2.x.c, .slice y2.x.B y2.x.d y2.x.e, .slice y2.x.C y2.x.f y2.x.g]) 4 true 42 rfl rfl (fun v w8 h8 => by simpa [tput] using h8) ?_ ?_
    · intro ρ w8 hr hw hf
      obtain ⟨u0, u1, u2, u3, u4, u5, u6, u7, u8, u9⟩ := k2 w8 hw
      try simp [Oper.looksAt, Op.operands, Call.operands, tput, frameW, Act.eval] at hf
      go_simp
    refine flow_yes (fun v _ => v = .bool true) 4 true 42 rfl rfl (fun v w8 h8 => by simpa [tput] using h8) (fun _ _ _ h _ => h) ?_ ?_
    · intro ρ w8 hr hw hf
      have r2 := hr.func
      simp [Oper.looksAt, Op.operands, Call.operands, tput, frameW, Act.eval] at hf
      have CN := hide (n3 w8 hw)
      go_simp
      refine ⟨Below.refl _ _, (unhide CN).mono ?_⟩
      rintro e w7 ⟨rfl, hb7⟩
      exact ⟨_, rfl, hb7, rfl⟩
    refine flow_val rfl ?_
    apply Exists.intro
    apply And.intro
    · intro ρ w8 hr hf
      have r1 := hr.const
      have r2 := hr.func
      try simp [Oper.looksAt, Op.operands, Call.operands, tput, frameW, Act.eval] at hf
      go_simp
      try rfl
    refine flow_val rfl ?_
    apply Exists.intro
    apply And.intro
    · intro ρ w8 hr hf
      have r1 := hr.const
      have r2 := hr.func
      try simp [Oper.looksAt, Op.operands, Call.operands, tput, frameW, Act.eval] at hf
      go_simp
      try rfl
    refine flow_yes_val 9 true 47 rfl rfl (fun v w8 h8 => by simpa [tput] using h8) ?_
    apply Exists.intro
    apply And.intro
    · intro ρ w8 hr hf
      have r1 := hr.const
      have r2 := hr.func
      try simp [Oper.looksAt, Op.operands, Call.operands, tput, frameW, Act.eval] at hf
      go_simp
      try rfl
    refine flow_yes (fun v _ => v = .int .i64 (q : Int)) 9 true 47 rfl rfl (fun v w8 h8 => by simpa [tput] using h8) (fun _ _ _ h _ => h) ?_ ?_
    · intro ρ w8 hr hw hf
      have r2 := hr.func
      simp [Oper.looksAt, Op.operands, Call.operands, tput, frameW, Act.eval] at hf
      have CN := hide (n4 w8 hw)
      go_simp
      refine ⟨Below.refl _ _, (unhide CN).mono ?_⟩
      rintro e w7 ⟨rfl, rfl⟩
      exact ⟨_, rfl, Below.refl _ _, rfl⟩
    refine flow_yes_val 9 true 47 rfl rfl (fun v w8 h8 => by simpa [tput] using h8) ?_
    apply Exists.intro
    apply And.intro
    · intro ρ w8 hr hf
      have r1 := hr.const
      have r2 := hr.func
      try simp [Oper.looksAt, Op.operands, Call.operands, tput, frameW, Act.eval] at hf
      go_simp
      try rfl
    refine flow_yes_val 9 true 47 rfl rfl (fun v w8 h8 => by simpa [tput] using h8) ?_
    apply Exists.intro
    apply And.intro
    · intro ρ w8 hr hf
      have r1 := hr.const
      have r2 := hr.func
      try simp [Oper.looksAt, Op.operands, Call.operands, tput, frameW, Act.eval] at hf
      go_simp
      try rfl
    refine flow_yes_val 9 true 47 rfl rfl (fun v w8 h8 => by simpa [tput] using h8) ?_
    apply Exists.intro
    apply And.intro
    · intro ρ w8 hr hf
      have r1 := hr.const
      have r2 := hr.func
      try simp [Oper.looksAt, Op.operands, Call.operands, tput, frameW, Act.eval] at hf
      go_simp
      try rfl
    refine flow_yes_pure (.int .i64 (q : Int)) 9 true 47 rfl rfl (fun v w8 h8 => by simpa [tput] using h8) ?_ ?_
    · intro ρ w8 hr hw hf
      obtain ⟨u0, u1⟩ := k3 w8 hw
      try simp [Oper.looksAt, Op.operands, Call.operands, tput, frameW, Act.eval] at hf
      go_simp
    refine flow_yes_pure (.bool true) 9 true 47 rfl rfl (fun v w8 h8 => by simpa [tput] using h8) ?_ ?_
    · intro ρ w8 hr hw hf

      try simp [Oper.looksAt, Op.operands, Call.operands, tput, frameW, Act.eval] at hf
      go_simp
    refine flow_val rfl ?_
    apply Exists.intro
    apply And.intro
    · intro ρ w8 hr hf
      have r1 := hr.const
      have r2 := hr.func
      try simp [Oper.looksAt, Op.operands, Call.operands, tput, frameW, Act.eval] at hf
      go_simp
      try rfl
    refine flow_val rfl ?_
    apply Exists.intro
    apply And.intro
    · intro ρ w8 hr hf
      have r1 := hr.const
      have r2 := hr.func
      try simp [Oper.looksAt, Op.operands, Call.operands, tput, frameW, Act.eval] at hf
      go_simp
      try rfl
    refine flow_yes_val 18 true 56 rfl rfl (fun v w8 h8 => by simpa [tput] using h8) ?_
    apply Exists.intro
    apply And.intro
    · intro ρ w8 hr hf
      have r1 := hr.const
      have r2 := hr.func
      try simp [Oper.looksAt, Op.operands, Call.operands, tput, frameW, Act.eval] at hf
      go_simp
      try rfl
    refine flow_yes_val 18 true 56 rfl rfl (fun v w8 h8 => by simpa [tput] using h8) ?_
    apply Exists.intro
    apply And.intro
    · intro ρ w8 hr hf
      have r1 := hr.const
      have r2 := hr.func
      try simp [Oper.looksAt, Op.operands, Call.operands, tput, frameW, Act.eval] at hf
      go_simp
      try rfl
    refine flow_yes_val 18 true 56 rfl rfl (fun v w8 h8 => by simpa [tput] using h8) ?_
    apply Exists.intro
    apply And.intro
    · intro ρ w8 hr hf
      have r1 := hr.const
      have r2 := hr.func
      try simp [Oper.looksAt, Op.operands, Call.operands, tput, frameW, Act.eval] at hf
      go_simp
      try rfl
    refine flow_yes_pure (.int .i64 (q : Int)) 18 true 56 rfl rfl (fun v w8 h8 => by simpa [tput] using h8) ?_ ?_
    · intro ρ w8 hr hw hf
      obtain ⟨u0, u1⟩ := k3 w8 hw
      try simp [Oper.looksAt, Op.operands, Call.operands, tput, frameW, Act.eval] at hf
      go_simp
    refine flow_yes_pure (.bool true) 18 true 56 rfl rfl (fun v w8 h8 => by simpa [tput] using h8) ?_ ?_
    · intro ρ w8 hr hw hf
      have r1 := hr.const
      obtain ⟨z4, z5, z6⟩ := HQ.out
      try simp [Oper.looksAt, Op.operands, Call.operands, tput, frameW, Act.eval] at hf
      go_simp
    refine flow_yes_val 18 true 56 rfl rfl (fun v w8 h8 => by simpa [tput] using h8) ?_
    apply Exists.intro
    apply And.intro
    · intro ρ w8 hr hf
      have r1 := hr.const
      have r2 := hr.func
      try simp [Oper.looksAt, Op.operands, Call.operands, tput, frameW, Act.eval] at hf
      go_simp
      try rfl
    refine flow_no 24 false 62 rfl rfl (fun v w8 h8 => by simpa [tput] using h8) ?_
    refine flow_no 24 false 62 rfl rfl (fun v w8 h8 => by simpa [tput] using h8) ?_
    refine flow_no 24 false 62 rfl rfl (fun v w8 h8 => by simpa [tput] using h8) ?_
    refine flow_no 24 false 62 rfl rfl (fun v w8 h8 => by simpa [tput] using h8) ?_
    refine flow_no 24 false 62 rfl rfl (fun v w8 h8 => by simpa [tput] using h8) ?_
    refine flow_no 24 false 62 rfl rfl (fun v w8 h8 => by simpa [tput] using h8) ?_
    refine flow_no 24 false 62 rfl rfl (fun v w8 h8 => by simpa [tput] using h8) ?_
    refine flow_no 24 false 62 rfl rfl (fun v w8 h8 => by simpa [tput] using h8) ?_
    refine flow_yes_val 18 true 56 rfl rfl (fun v w8 h8 => by simpa [tput] using h8) ?_
    apply Exists.intro
    apply And.intro
    · intro ρ w8 hr hf
      have r1 := hr.const
      have r2 := hr.func
      try simp [Oper.looksAt, Op.operands, Call.operands, tput, frameW, Act.eval] at hf
      go_simp
      try rfl
    refine flow_val rfl ?_
    apply Exists.intro
    apply And.intro
    · intro ρ w8 hr hf
      have r1 := hr.const
      have r2 := hr.func
      try simp [Oper.looksAt, Op.operands, Call.operands, tput, frameW, Act.eval] at hf
      go_simp
      try rfl
    refine flow_val rfl ?_
    apply Exists.intro
    apply And.intro
    · intro ρ w8 hr hf
      have r1 := hr.const
      have r2 := hr.func
      try simp [Oper.looksAt, Op.operands, Call.operands, tput, frameW, Act.eval] at hf
      go_simp
      try rfl
    refine flow_yes (fun v _ => v = .bool true) 35 true 73 rfl rfl (fun v w8 h8 => by simpa [tput] using h8) (fun _ _ _ h _ => h) ?_ ?_
    · intro ρ w8 hr hw hf
      have r2 := hr.func
      simp [Oper.looksAt, Op.operands, Call.operands, tput, frameW, Act.eval] at hf
      have CN := hide (n6 w8)
      go_simp
      refine ⟨Below.refl _ _, (unhide CN).mono ?_⟩
      rintro e w7 ⟨rfl, hb7⟩
      exact ⟨_, rfl, hb7, rfl⟩
    refine flow_val rfl ?_
    apply Exists.intro
    apply And.intro
    · intro ρ w8 hr hf
      have r1 := hr.const
      have r2 := hr.func
      try simp [Oper.looksAt, Op.operands, Call.operands, tput, frameW, Act.eval] at hf
      go_simp
      try rfl
    refine flow_val rfl ?_
    apply Exists.intro
    apply And.intro
    · intro ρ w8 hr hf
      have r1 := hr.const
      have r2 := hr.func
      try simp [Oper.looksAt, Op.operands, Call.operands, tput, frameW, Act.eval] at hf
      go_simp
      try rfl
    refine flow_nil ?_
    intro f w9 hb9 hf
    have g4 := hf 4; simp [tput, frameW, Act.eval] at g4
    rw [show frameOf f _ _ = ⟨#[f 0, f 1, f 2, f 3, f 4, f 5, f 6, f 7, f 8, f 9, f 10, f 11, f 12, f 13, f 14, f 15, f 16, f 17, f 18, f 19, f 20, f 21, f 22, f 23, f 24, f 25, f 26, f 27, f 28, f 29, f 30, f 31, f 32, f 33, f 34, f 35, f 36, f 37, f 38, f 39, f 40, f 41, f 42, f 43, f 44, f 45, f 46, f 47, f 48, f 49, f 50, f 51, f 52, f 53, f 54, f 55, f 56, f 57, f 58, f 59, f 60, f 61, f 62, f 63, f 64, f 65, f 66, f 67, f 68, f 69, f 70, f 71, f 72, f 73, f 74, f 75], []⟩ from rfl, g4]
    have hbz9 := hb12.trans (hb9.mono hb12.size)
    clear hf n1 n2 n3 n4 n5 n6 k1 k2 k3 hb9
    go_wp2
    go_ret
    exact ⟨rfl, hbz9⟩

/-! ### THE ROW's STEP -/
set_option maxRecDepth 100000 in
theorem lifted (os : Os) (started : os.Started) (H : Type) (enc : TypeId × Value → H) :
    ReturnsInHanded {} Try.checked os 3 .any (Rows.cmdFormsSpec.pre6 enc Try.prog Try.f3 Rows.cmdFormsRow.domain false) (Rows.cmdFormsSpec.post enc Try.prog Try.f3 false true false false) := by
  refine returnsInHanded_of_change (C := Try.checked) own started (by kernel_rfl) Try.func3
    (ChangeSpec.witness6 (enc := enc) (C := Try.checked) false ⟨#[], #[.agg #[.int .i64 0, .int .u16 0, .int .u32 0, .int .u64 0, .int .u64 0, .slice none 0 0, .int .u64 0, .slice none 0 0, .slice none 0 0, .slice none 0 0], .slice none 0 0], []⟩ 8 (by kernel_rfl) (by kernel_rfl) (by kernel_rfl) (by kernel_rfl)) ?_
  intro W base args ds gs before hval0 hW hcnd _
  have hval : ∀ (j : Nat) t v, Try.f3.params[j]? = some t → args[j]? = some v → Value.okWide Try.prog W .any base t v := hval0
  have hW' := hW
  obtain ⟨p, q, hA0, hV, rfl, hfz, hnd⟩ := hW
  have hA : DataW.TrodAll enc Try.prog W 0 (fun _ => true) true Try.f3.params.toList args.toList ds p := hA0
  rw [Try.params3] at hA hval
  obtain ⟨v0, vs0, d0, ds0, p0, q0, hargs, rfl, rfl, h0, r0⟩ := trodAll_cons hA
  obtain ⟨v1, vs1, d1, ds1, p1, q1, rfl, rfl, rfl, h1, r1⟩ := trodAll_cons r0
  obtain ⟨rfl, rfl, rfl⟩ := trodAll_nil r1
  obtain rfl : args = #[v0, v1] := by cases args; simp_all
  obtain ⟨rfl, rfl⟩ := trodVars_none hV
  have k0 := h0
  have lt0 : ∀ x ∈ p0, x.block < W.heap.size := by obtain ⟨m, hm⟩ := k0; exact DataW.trod_lt m _ _ _ hm
  obtain ⟨x0, rfl, hx0⟩ := open_cmd (hval 0 33 v0 rfl rfl) h0
  have k1 := h1
  have lt1 : ∀ x ∈ p1, x.block < W.heap.size := by obtain ⟨m, hm⟩ := k1; exact DataW.trod_lt m _ _ _ hm
  obtain ⟨a1, len1, cap1, rfl⟩ := okWide_slice Try.underlying27 (hval 1 27 v1 rfl rfl)
  obtain ⟨z1, w1⟩ : ∃ zs, IsRow .u8 W a1 len1 cap1 zs := by
    obtain ⟨fuel, hf⟩ := h1
    rcases open_ints Try.underlying27 Try.underlying5 (by kernel_rfl) hf with ⟨hcs, _⟩ | ⟨x, l, c, zs, hcs, _, hl, hm, hz, _, hcell, hwz⟩
    · simp [Value.cells] at hcs
      obtain ⟨rfl, rfl, rfl⟩ := hcs
      exact ⟨[], .inl ⟨rfl, rfl, rfl, rfl⟩⟩
    · simp [Value.cells] at hcs
      obtain ⟨rfl, rfl, rfl⟩ := hcs
      exact ⟨zs, .inr ⟨_, rfl, hl, hm, by simpa using hz, hcell, hwz⟩⟩
  have b1 : ∀ x, a1 = some x → 0 < len1 → x.block < W.heap.size := isRow_block w1
  clear hA0 hval0
  refine (walk x0 a1 len1 cap1 z1 W hx0 w1 b1).mono fun e W' ⟨he, bel⟩ => ?_
  subst he
  exact ⟨_, rfl, _, _, _, [], _, [], hW', trodAll_mk1 (shut_bool Try.underlying4 _), (trodAll_cons_mk (Below.trod laidOut (by kernel_rfl) (of_decide_eq_true (by kernel_rfl)) k0 bel lt0) (trodAll_cons_mk (Below.trod laidOut (by kernel_rfl) (of_decide_eq_true (by kernel_rfl)) k1 bel lt1) trodAll_mk0)), rfl, bel.frame _, fun h => by cases h⟩

theorem over : Rows.cmdFormsRow.holds Try.pinned (OpenSpec.ofChange Rows.cmdFormsSpec) :=
  OpenClaim.holds_of_wide 3 Try.f3 rfl rfl rfl rfl rfl rfl rfl ⟨rfl, rfl, rfl, rfl, rfl⟩ rfl rfl rfl rfl rfl (by kernel_rfl) Try.func3 (by kernel_rfl)
    (of_decide_eq_true (by kernel_rfl)) (by unfold Func.isWrapper; first | (rw [if_pos (by decide +kernel)]; kernel_rfl) | (rw [if_neg (by decide +kernel)]; exact ⟨rfl, rfl⟩))
    (fun os started H enc _ => lifted os started H enc)

theorem proved : Rows.CmdFormsSaid := over
#print axioms proved
end Go.Proofs.Ytdmihbicpjmgjaa.cmdForms
