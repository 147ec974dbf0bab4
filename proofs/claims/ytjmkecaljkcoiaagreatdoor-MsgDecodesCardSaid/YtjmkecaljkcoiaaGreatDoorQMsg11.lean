import Derived.Test.YtjmkecaljkcoiaaGreatDoorQMsg10
import Derived.Test.YtjmkecaljkcoiaaGreatDoorQMsg5
import Derived.Test.YtjmkecaljkcoiaaGreatDoorQMsg10L
namespace Go.Proofs.YtjmkecaljkcoiaaGreatDoor
open Go.RowKit Go.Maps
set_option linter.unusedVariables false
set_option linter.unusedSimpArgs false
def GetR (w : World) (b g : Nat) (x : Ms × RS) (W : World) : Prop := ∃ z : Mx, z.m = x.1 ∧ GetG w W b x.2 g z
def GetP10 (w : World) (b : Nat) (r : Ms × RS) (e : Ending) (w' : World) : Prop := ∃ z : Mx, e = .returned (.agg #[.int .i64 z.kind, .int .u16 z.who.i, .int .u32 z.who.k, .int .u64 z.view, .int .u64 z.slot, .int .u64 z.num, .int .i64 z.hops, .int .u32 z.b.r, .int .u16 z.b.p.i, .int .u32 z.b.p.k, .int .u32 z.a.r, .int .u16 z.a.p.i, .int .u32 z.a.p.k, .bool z.has, .int .i64 z.y.kind, .int .u16 z.y.p.i, .int .u32 z.y.p.k, .int .u64 z.y.num, .int .u64 z.y.vn, .slice z.y.A z.y.n z.y.c, .int .u64 z.y.x.id, .slice z.y.x.A z.y.x.m z.y.x.c, .slice z.y.x.B z.y.x.d z.y.x.e, .slice z.y.x.C z.y.x.f z.y.x.g, .int .u64 z.x.id, .slice z.x.A z.x.m z.x.c, .slice z.x.B z.x.d z.x.e, .slice z.x.C z.x.f z.x.g, .slice z.A z.n z.c]) ∧ z.m = r.1 ∧ MxOwn w' w.heap.size z ∧ MNums z ∧ MSmall z ∧ RdAt w' b r.2.l r.2.t ∧ Turn w w' b none
theorem zeroM_num : MNums zeroM := ⟨by show (-9223372036854775808 : Int) ≤ 0; decide, by show (0 : Int) ≤ 9223372036854775807; decide, by show 0 < 18446744073709551616; decide, by show 0 < 18446744073709551616; decide, by show 0 < 18446744073709551616; decide, by show (-9223372036854775808 : Int) ≤ 0; decide, by show (0 : Int) ≤ 9223372036854775807; decide, ⟨by show (-9223372036854775808 : Int) ≤ 0; decide, by show (0 : Int) ≤ 9223372036854775807; decide, by show 0 < 18446744073709551616; decide, by show 0 < 18446744073709551616; decide, by show 0 < 18446744073709551616; decide⟩, by show 0 < 18446744073709551616; decide⟩
theorem st0_len (q : Nat) (x : Ms × RS) : (st0 q x).2.l.length ≤ x.2.l.length := by unfold st0; split; exact pidQ_len _; exact Nat.le_refl _
theorem st1_len (q : Nat) (x : Ms × RS) : (st1 q x).2.l.length ≤ x.2.l.length := by unfold st1; split; exact numS_len _ _; exact Nat.le_refl _
theorem st2_len (q : Nat) (x : Ms × RS) : (st2 q x).2.l.length ≤ x.2.l.length := by unfold st2; split; exact numS_len _ _; exact Nat.le_refl _
theorem st3_len (q : Nat) (x : Ms × RS) : (st3 q x).2.l.length ≤ x.2.l.length := by unfold st3; split; exact balS_len _; exact Nat.le_refl _
theorem st4_len (q : Nat) (x : Ms × RS) : (st4 q x).2.l.length ≤ x.2.l.length := by unfold st4; split; exact numS_len _ _; exact Nat.le_refl _
theorem st5_len (q : Nat) (x : Ms × RS) : (st5 q x).2.l.length ≤ x.2.l.length := by unfold st5; split; exact numS_len _ _; exact Nat.le_refl _
theorem st6_len (q : Nat) (x : Ms × RS) : (st6 q x).2.l.length ≤ x.2.l.length := by unfold st6; split; exact truS_len _; exact Nat.le_refl _
theorem st7_len (q : Nat) (x : Ms × RS) : (st7 q x).2.l.length ≤ x.2.l.length := by unfold st7; split; exact balS_len _; exact Nat.le_refl _
theorem st8_len (q : Nat) (x : Ms × RS) : (st8 q x).2.l.length ≤ x.2.l.length := by unfold st8; split; exact cmdS_len _; exact Nat.le_refl _
theorem st9_len (q : Nat) (x : Ms × RS) : (st9 q x).2.l.length ≤ x.2.l.length := by unfold st9; split; exact viewS_len _; exact Nat.le_refl _
set_option maxRecDepth 100000 in
set_option maxHeartbeats 8000000 in
theorem get10_tot (b : Nat) (s : RS) (w : World) (h : RdAt w b s.l s.t) (hl : s.l.length ≤ 10000000) (hK : Kinds w) (hbk : 0 ≠ b) :
    Calls Tryz.prog 50 #[.pointer (some ⟨b, 0, none⟩)] w (GetP10 w b (getM s)) := by
  have hb := h.lt
  have hbz : Below w.heap.size w (w.alloc (.cells #[.int .i64 0, .int .u16 0, .int .u32 0, .int .u64 0, .int .u64 0, .int .u64 0, .int .i64 0, .int .u32 0, .int .u16 0, .int .u32 0, .int .u32 0, .int .u16 0, .int .u32 0, .bool false, .int .i64 0, .int .u16 0, .int .u32 0, .int .u64 0, .int .u64 0, .slice none 0 0, .int .u64 0, .slice none 0 0, .slice none 0 0, .slice none 0 0, .int .u64 0, .slice none 0 0, .slice none 0 0, .slice none 0 0, .slice none 0 0] 50)) := (Below.refl _ _).alloc (Nat.le_refl _) _
  have z0 : MAt10 (w.alloc (.cells #[.int .i64 0, .int .u16 0, .int .u32 0, .int .u64 0, .int .u64 0, .int .u64 0, .int .i64 0, .int .u32 0, .int .u16 0, .int .u32 0, .int .u32 0, .int .u16 0, .int .u32 0, .bool false, .int .i64 0, .int .u16 0, .int .u32 0, .int .u64 0, .int .u64 0, .slice none 0 0, .int .u64 0, .slice none 0 0, .slice none 0 0, .slice none 0 0, .int .u64 0, .slice none 0 0, .slice none 0 0, .slice none 0 0, .slice none 0 0] 50)) w.heap.size zeroM := MAt10.mk_ w zeroM
  have hs1 : (w.alloc (.cells #[.int .i64 0, .int .u16 0, .int .u32 0, .int .u64 0, .int .u64 0, .int .u64 0, .int .i64 0, .int .u32 0, .int .u16 0, .int .u32 0, .int .u32 0, .int .u16 0, .int .u32 0, .bool false, .int .i64 0, .int .u16 0, .int .u32 0, .int .u64 0, .int .u64 0, .slice none 0 0, .int .u64 0, .slice none 0 0, .slice none 0 0, .slice none 0 0, .int .u64 0, .slice none 0 0, .slice none 0 0, .slice none 0 0, .slice none 0 0] 50)).heap.size = w.heap.size + 1 := by simp
  have c1 := rdnum_tot b 14 s (w.alloc (.cells #[.int .i64 0, .int .u16 0, .int .u32 0, .int .u64 0, .int .u64 0, .int .u64 0, .int .i64 0, .int .u32 0, .int .u16 0, .int .u32 0, .int .u32 0, .int .u16 0, .int .u32 0, .bool false, .int .i64 0, .int .u16 0, .int .u32 0, .int .u64 0, .int .u64 0, .slice none 0 0, .int .u64 0, .slice none 0 0, .slice none 0 0, .slice none 0 0, .int .u64 0, .slice none 0 0, .slice none 0 0, .slice none 0 0, .slice none 0 0] 50)) (h.later hbz) (by decide)
  have hk14 := numS_le 14 s
  have hl1 := numS_len 14 s
  obtain ⟨k, hk⟩ : ∃ k, k = (numS 14 s).1 := ⟨_, rfl⟩
  obtain ⟨s1, hs1d⟩ : ∃ x, x = (numS 14 s).2 := ⟨_, rfl⟩
  rw [← hk, ← hs1d] at c1
  rw [← hk] at hk14
  rw [← hs1d] at hl1
  have HK := hide (And.intro hk hs1d)
  clear hk hs1d h
  have KIN := fun W (ht : Turn w W b none) => hK.turn ht hbk (by simp)
  have HKIN := hide KIN
  clear hK KIN
  have wr : IntKind.i64.wrap (k : Int) = (k : Int) := by rw [IntKind.wrap_i64]; omega
  generalize hw1 : w.alloc (.cells #[.int .i64 0, .int .u16 0, .int .u32 0, .int .u64 0, .int .u64 0, .int .u64 0, .int .i64 0, .int .u32 0, .int .u16 0, .int .u32 0, .int .u32 0, .int .u16 0, .int .u32 0, .bool false, .int .i64 0, .int .u16 0, .int .u32 0, .int .u64 0, .int .u64 0, .slice none 0 0, .int .u64 0, .slice none 0 0, .slice none 0 0, .slice none 0 0, .int .u64 0, .slice none 0 0, .slice none 0 0, .slice none 0 0, .slice none 0 0] 50) = w1 at *
  have c1' : Calls Tryz.prog 103 #[.pointer (some ⟨b, 0, none⟩), .int .u64 14] w1 (ReadsP w1 b (.int .u64 k) s1.l s1.t) := c1
  clear c1
  go_enter Tryz.func50, Tryz.ntmps50
  go_wp2_with fail
  refine c1'.mono ?_
  rintro e w2 ⟨rfl, hr, ht⟩
  have hw2s := ht.size
  obtain ⟨kX, hkX⟩ : ∃ z : Mx, z = ⟨(k : Int), default, 0, 0, 0, 0, default, default, false, zX 0 zeroX, zeroX, none, 0, 0, []⟩ := ⟨_, rfl⟩
  have z2 : MAt10 (w2.alloc (.cells #[.int .i64 0, .int .u16 0, .int .u32 0, .int .u64 0, .int .u64 0, .int .u64 0, .int .i64 0, .int .u32 0, .int .u16 0, .int .u32 0, .int .u32 0, .int .u16 0, .int .u32 0, .bool false, .int .i64 0, .int .u16 0, .int .u32 0, .int .u64 0, .int .u64 0, .slice none 0 0, .int .u64 0, .slice none 0 0, .slice none 0 0, .slice none 0 0, .int .u64 0, .slice none 0 0, .slice none 0 0, .slice none 0 0, .slice none 0 0] 50)) w2.heap.size zeroM := MAt10.mk_ w2 zeroM
  have ST : ∀ {ops : Array Oper} {rest : List Oper} {o : Oper} {a : Act} {Q : Exit → Act → World → Prop} (hgd : o.guard = none) (x y : Operand) (ho : o.op = .store 50 x y)
    (hx : a.eval x = .pointer (some ⟨w2.heap.size, 0, none⟩)) (hy : a.eval y = .agg #[.int .i64 k, .int .u16 0, .int .u32 0, .int .u64 0, .int .u64 0, .int .u64 0, .int .i64 0, .int .u32 0, .int .u16 0, .int .u32 0, .int .u32 0, .int .u16 0, .int .u32 0, .bool false, .int .i64 0, .int .u16 0, .int .u32 0, .int .u64 0, .int .u64 0, .slice none 0 0, .int .u64 0, .slice none 0 0, .slice none 0 0, .slice none 0 0, .int .u64 0, .slice none 0 0, .slice none 0 0, .slice none 0 0, .slice none 0 0]) (h : ∀ W', StoM (w2.alloc (.cells #[.int .i64 0, .int .u16 0, .int .u32 0, .int .u64 0, .int .u64 0, .int .u64 0, .int .i64 0, .int .u32 0, .int .u16 0, .int .u32 0, .int .u32 0, .int .u16 0, .int .u32 0, .bool false, .int .i64 0, .int .u16 0, .int .u32 0, .int .u64 0, .int .u64 0, .slice none 0 0, .int .u64 0, .slice none 0 0, .slice none 0 0, .slice none 0 0, .int .u64 0, .slice none 0 0, .slice none 0 0, .slice none 0 0, .slice none 0 0] 50)) w2.heap.size kX W' → wpList Tryz.prog ops Q rest (a.put o.dst undef) W'), wpList Tryz.prog ops Q (o :: rest) a (w2.alloc (.cells #[.int .i64 0, .int .u16 0, .int .u32 0, .int .u64 0, .int .u64 0, .int .u64 0, .int .i64 0, .int .u32 0, .int .u16 0, .int .u32 0, .int .u32 0, .int .u16 0, .int .u32 0, .bool false, .int .i64 0, .int .u16 0, .int .u32 0, .int .u64 0, .int .u64 0, .slice none 0 0, .int .u64 0, .slice none 0 0, .slice none 0 0, .slice none 0 0, .int .u64 0, .slice none 0 0, .slice none 0 0, .slice none 0 0, .slice none 0 0] 50)) :=
    fun {ops rest o a Q} hgd x y ho hx hy h => wpList_store_msg kX zeroM w2.heap.size hgd x y ho hx (by rw [hkX]; exact hy) z2 h
  have hkm : kX.m = kindM k := by rw [hkX]; rfl
  have hown : MxOwn (w2.alloc (.cells #[.int .i64 0, .int .u16 0, .int .u32 0, .int .u64 0, .int .u64 0, .int .u64 0, .int .i64 0, .int .u32 0, .int .u16 0, .int .u32 0, .int .u32 0, .int .u16 0, .int .u32 0, .bool false, .int .i64 0, .int .u16 0, .int .u32 0, .int .u64 0, .int .u64 0, .slice none 0 0, .int .u64 0, .slice none 0 0, .slice none 0 0, .slice none 0 0, .int .u64 0, .slice none 0 0, .slice none 0 0, .slice none 0 0, .slice none 0 0] 50)) (w2.heap.size + 1) kX := by rw [hkX]; exact ⟨⟨OwnB.nil_ _ _, zeroX_own _ _⟩, zeroX_own _ _, OwnB.nil_ _ _⟩
  have hnum : MNums kX := by
    rw [hkX]
    exact ⟨by show (-9223372036854775808 : Int) ≤ (k : Int); omega, by show (k : Int) ≤ 9223372036854775807; omega, zeroM_num.hv, zeroM_num.hs, zeroM_num.hn, zeroM_num.h0, zeroM_num.h1, zeroM_num.cm, zeroM_num.vw⟩
  have hsm : MSmall kX := by rw [hkX]; exact ⟨Nat.zero_le _, ⟨Nat.zero_le _, zeroX_few⟩, zeroX_few⟩
  have hkk : kX.kind = (k : Int) := by rw [hkX]
  have hkh : kX.has = false := by rw [hkX]
  have hKX := hide (And.intro hkX (And.intro hkk hkh))
  have HN := hide (And.intro hkm (And.intro hown (And.intro hnum hsm)))
  have hg1 : w.heap.size + 1 ≤ w2.heap.size := by omega
  clear hkX hkm hown hnum hsm hkk hkh
  go_wp2_with (refine ST rfl (.tmp 3) (.tmp 8) rfl rfl rfl ?_)
  intro w3 hst
  have v3 := hst.at_ z2
  have ht3 : Turn w w3 b none := hst.turn ((Turn.ahead hbz ht).alloc _) (by omega)
  have r3 : MAt10 w3 w.heap.size zeroM := (hst.other (by omega)).trans ((z0.turn ht (by omega) (by simp)).alloc _)
  have o3 : MxOwn w3 (w2.heap.size + 1) kX := HN.out.2.1.turnLow (hst.turn1) (by omega)
  have d3 : RdAt w3 b s1.l s1.t := (hr.alloc (.cells #[.int .i64 0, .int .u16 0, .int .u32 0, .int .u64 0, .int .u64 0, .int .u64 0, .int .i64 0, .int .u32 0, .int .u16 0, .int .u32 0, .int .u32 0, .int .u16 0, .int .u32 0, .bool false, .int .i64 0, .int .u16 0, .int .u32 0, .int .u64 0, .int .u64 0, .slice none 0 0, .int .u64 0, .slice none 0 0, .slice none 0 0, .slice none 0 0, .int .u64 0, .slice none 0 0, .slice none 0 0, .slice none 0 0, .slice none 0 0] 50)).turn hst.turn1 (by omega) (fun g hg => by cases hg)
  have p0 : GetR w b w2.heap.size (kindM k, s1) w3 := ⟨kX, HN.out.1, ⟨v3, r3, o3, HN.out.2.2.1, HN.out.2.2.2, d3, ht3, hg1⟩⟩
  obtain ⟨g, hg⟩ : ∃ g, g = w2.heap.size := ⟨_, rfl⟩
  have cf := fieldsOf_any kX w3 (HKIN.out w3 ht3)
  rw [hKX.out.2.1, hKX.out.2.2] at cf
  have hq0 : bitsM (k : Int) false = tabM k := by unfold bitsM; rw [if_neg (by simp), Int.toNat_natCast]
  rw [hq0] at cf
  have hlt3 := v3.lt
  obtain ⟨q, hq⟩ : ∃ q, q = tabM k := ⟨_, rfl⟩
  have hq1 : q < 2048 := by rw [hq]; exact tabM_lt k
  rw [← hq] at cf
  have HQ := hide (And.intro hq hq0)
  have CW := fun W i (hi : i < 11) => fwith_any q (2 ^ i) W (q.testBit i) (by omega) (Nat.lt_of_lt_of_le (Nat.pow_lt_pow_right (by decide) hi) (by decide)) (with_bit q i).symm
  have cf' : Calls Tryz.prog 65 #[.agg #[.int .i64 kX.kind, .int .u16 kX.who.i, .int .u32 kX.who.k, .int .u64 kX.view, .int .u64 kX.slot, .int .u64 kX.num, .int .i64 kX.hops, .int .u32 kX.b.r, .int .u16 kX.b.p.i, .int .u32 kX.b.p.k, .int .u32 kX.a.r, .int .u16 kX.a.p.i, .int .u32 kX.a.p.k, .bool kX.has, .int .i64 kX.y.kind, .int .u16 kX.y.p.i, .int .u32 kX.y.p.k, .int .u64 kX.y.num, .int .u64 kX.y.vn, .slice kX.y.A kX.y.n kX.y.c, .int .u64 kX.y.x.id, .slice kX.y.x.A kX.y.x.m kX.y.x.c, .slice kX.y.x.B kX.y.x.d kX.y.x.e, .slice kX.y.x.C kX.y.x.f kX.y.x.g, .int .u64 kX.x.id, .slice kX.x.A kX.x.m kX.x.c, .slice kX.x.B kX.x.d kX.x.e, .slice kX.x.C kX.x.f kX.x.g, .slice kX.A kX.n kX.c]] w3 (fun e w' => e = .returned (.int .u16 q) ∧ Below w3.heap.size w3 w') := by
    have e := fieldsOf_any kX w3 (HKIN.out w3 ht3)
    rw [show bitsM kX.kind kX.has = q from by rw [hKX.out.2.1, hKX.out.2.2, hq0, hq]] at e
    exact e
  clear hq hq0 cf ST z2 hst r3 o3 d3 hr ht c1'
  go_wp2_with (refine wpList_load_msg kX w2.heap.size rfl (.tmp 3) rfl rfl v3 ?_)
  refine cf'.mono ?_
  rintro e w4 ⟨rfl, hb4⟩
  have p0 : GetR w b w2.heap.size (kindM k, s1) w4 := by
    obtain ⟨z, h1, h2⟩ := p0
    exact ⟨z, h1, h2.later hb4⟩
  clear cf' v3 ht3 hb4 hlt3
  rw [← hg] at p0 ⊢
  have hg2 : w.heap.size + 1 ≤ g := by omega
  obtain ⟨x0, hx0⟩ : ∃ x, x = (kindM k, s1) := ⟨_, rfl⟩
  rw [← hx0] at p0
  have hlen0 : x0.2.l.length ≤ 10000000 := by rw [hx0]; exact Nat.le_trans hl1 hl
  have hh0 : x0.1.has = false := by rw [hx0]; rfl
  have hk0 : x0.1.kind = (k : Int) := by rw [hx0]; rfl
  have HX0 := hide (And.intro hx0 (And.intro hlen0 (And.intro hh0 hk0)))
  clear hx0 hlen0 hh0 hk0 hg
  obtain ⟨w3, hw3⟩ : ∃ x, x = w4 := ⟨_, rfl⟩
  subst hw3
  -- the field 0
  have cw : ∀ W, Calls Tryz.prog 67 #[.int .u16 q, .int .u16 1] W (fun e w' => e = .returned (.bool (q.testBit 0)) ∧ W = w') := fun W => CW W 0 (by decide)
  obtain ⟨g0, hg0⟩ : ∃ g, g = q.testBit 0 := ⟨_, rfl⟩
  rw [← hg0] at cw
  have HG0 := hide hg0
  clear hg0
  go_upto_if 12 with (go_at_call 67; refine (cw _).mono ?_; rintro e w8 ⟨rfl, rfl⟩)
  go_cut [] (fun wx => GetR w b g (st0 q x0) wx)
  case first =>
    have eno : g0 = false → st0 q x0 = x0 := fun h => by unfold st0; rw [← HG0.out, h]; rfl
    have eyes : g0 = true → st0 q x0 = ({ x0.1 with who := (pidQ x0.2).1 }, (pidQ x0.2).2) := fun h => by unfold st0; rw [← HG0.out, h]; rfl
    have ENO := hide eno
    have EYES := hide eyes
    clear eno eyes
    cases g0
    · go_wp2_with fail
      go_meet
      rw [ENO.out (by first | rfl | trivial)]
      exact p0
    · obtain ⟨z, hm, hG⟩ := p0
      have cr := rdpid_tot b x0.2 w3 hG.rd
      obtain ⟨r, hr⟩ : ∃ r, r = pidQ x0.2 := ⟨_, rfl⟩
      rw [← hr] at cr
      have HR := hide hr
      clear hr
      have HE := hide (EYES.out (by first | rfl | trivial))
      rw [← HR.out] at HE
      clear EYES ENO
      go_wp2_with fail
      refine cr.mono ?_
      rintro e w5 ⟨rfl, hr5, ht5⟩
      have hgl := hG.v.lt
      have hG5 : GetG w w5 b r.2 g z := hG.read (s' := r.2) hb ht5 hr5
      have hgn := hG5.setWho hb r.1
      have hgr := (⟨_, (by show _ = ({ x0.1 with who := r.1 } : Ms); rw [← hm]; rfl), hgn⟩ : GetR w b g ({ x0.1 with who := r.1 }, r.2) _)
      obtain ⟨j0, j1, j2, j3, j4, j5, j6, j7, j8, j9, j10, j11, j12, j13, j14, j15, j16, j17, j18, j19, j20, j21, j22, j23, j24, j25, j26, j27, j28⟩ := hG5.v.cells
      have fz := hG5.v.fz
      have hl5' := hG5.v.lt
      rw [← HE.out] at hgr
      have HGR := hide hgr
      clear hgr hgn hG5 hG hr5 ht5
      go_wp2_with fail
      go_meet
      exact HGR.out
  case rest =>
  have p1 := hcut
  obtain ⟨x1, hx1⟩ : ∃ x, x = st0 q x0 := ⟨_, rfl⟩
  have hf1 : x1.2.l.length ≤ 10000000 ∧ x1.1.has = false ∧ x1.1.kind = (k : Int) := by
    rw [hx1]
    refine ⟨Nat.le_trans (st0_len _ _) HX0.out.2.1, ?_, ?_⟩
    · have := HX0.out.2.2.1; unfold st0; split <;> exact this
    · have := HX0.out.2.2.2; unfold st0; split <;> exact this
  rw [← hx1] at p1
  have HX1 := hide (And.intro hx1 hf1)
  clear hx1 hf1 p0 cw hcut
  obtain ⟨w3, hw3⟩ : ∃ x, x = wc := ⟨_, rfl⟩
  subst hw3
  -- the field 1
  have cw : ∀ W, Calls Tryz.prog 67 #[.int .u16 q, .int .u16 2] W (fun e w' => e = .returned (.bool (q.testBit 1)) ∧ W = w') := fun W => CW W 1 (by decide)
  obtain ⟨g1, hg1⟩ : ∃ g, g = q.testBit 1 := ⟨_, rfl⟩
  rw [← hg1] at cw
  have HG1 := hide hg1
  clear hg1
  go_upto_if 17 with (go_at_call 67; refine (cw _).mono ?_; rintro e w8 ⟨rfl, rfl⟩)
  go_cut [] (fun wx => GetR w b g (st1 q x1) wx)
  case first =>
    have eno : g1 = false → st1 q x1 = x1 := fun h => by unfold st1; rw [← HG1.out, h]; rfl
    have eyes : g1 = true → st1 q x1 = ({ x1.1 with view := (numS 4611686018427387904 x1.2).1 }, (numS 4611686018427387904 x1.2).2) := fun h => by unfold st1; rw [← HG1.out, h]; rfl
    have ENO := hide eno
    have EYES := hide eyes
    clear eno eyes
    cases g1
    · go_wp2_with fail
      go_meet
      rw [ENO.out (by first | rfl | trivial)]
      exact p1
    · obtain ⟨z, hm, hG⟩ := p1
      have cr := rdnum_tot b 4611686018427387904 x1.2 w3 hG.rd (by decide)
      obtain ⟨r, hr⟩ : ∃ r, r = numS 4611686018427387904 x1.2 := ⟨_, rfl⟩
      rw [← hr] at cr
      have HR := hide hr
      clear hr
      have HE := hide (EYES.out (by first | rfl | trivial))
      rw [← HR.out] at HE
      clear EYES ENO
      go_wp2_with fail
      refine cr.mono ?_
      rintro e w5 ⟨rfl, hr5, ht5⟩
      have hgl := hG.v.lt
      have hG5 : GetG w w5 b r.2 g z := hG.read (s' := r.2) hb ht5 hr5
      have hgn := hG5.setView hb r.1 (by have := numS_le 4611686018427387904 x1.2; rw [← HR.out] at this; omega)
      have hgr := (⟨_, (by show _ = ({ x1.1 with view := r.1 } : Ms); rw [← hm]; rfl), hgn⟩ : GetR w b g ({ x1.1 with view := r.1 }, r.2) _)
      obtain ⟨j0, j1, j2, j3, j4, j5, j6, j7, j8, j9, j10, j11, j12, j13, j14, j15, j16, j17, j18, j19, j20, j21, j22, j23, j24, j25, j26, j27, j28⟩ := hG5.v.cells
      have fz := hG5.v.fz
      have hl5' := hG5.v.lt
      rw [← HE.out] at hgr
      have HGR := hide hgr
      clear hgr hgn hG5 hG hr5 ht5
      go_wp2_with fail
      go_meet
      exact HGR.out
  case rest =>
  have p2 := hcut
  obtain ⟨x2, hx2⟩ : ∃ x, x = st1 q x1 := ⟨_, rfl⟩
  have hf2 : x2.2.l.length ≤ 10000000 ∧ x2.1.has = false ∧ x2.1.kind = (k : Int) := by
    rw [hx2]
    refine ⟨Nat.le_trans (st1_len _ _) HX1.out.2.1, ?_, ?_⟩
    · have := HX1.out.2.2.1; unfold st1; split <;> exact this
    · have := HX1.out.2.2.2; unfold st1; split <;> exact this
  rw [← hx2] at p2
  have HX2 := hide (And.intro hx2 hf2)
  clear hx2 hf2 p1 cw hcut
  obtain ⟨w3, hw3⟩ : ∃ x, x = wc := ⟨_, rfl⟩
  subst hw3
  -- the field 2
  have cw : ∀ W, Calls Tryz.prog 67 #[.int .u16 q, .int .u16 4] W (fun e w' => e = .returned (.bool (q.testBit 2)) ∧ W = w') := fun W => CW W 2 (by decide)
  obtain ⟨g2, hg2⟩ : ∃ g, g = q.testBit 2 := ⟨_, rfl⟩
  rw [← hg2] at cw
  have HG2 := hide hg2
  clear hg2
  go_upto_if 22 with (go_at_call 67; refine (cw _).mono ?_; rintro e w8 ⟨rfl, rfl⟩)
  go_cut [] (fun wx => GetR w b g (st2 q x2) wx)
  case first =>
    have eno : g2 = false → st2 q x2 = x2 := fun h => by unfold st2; rw [← HG2.out, h]; rfl
    have eyes : g2 = true → st2 q x2 = ({ x2.1 with slot := (numS 4611686018427387904 x2.2).1 }, (numS 4611686018427387904 x2.2).2) := fun h => by unfold st2; rw [← HG2.out, h]; rfl
    have ENO := hide eno
    have EYES := hide eyes
    clear eno eyes
    cases g2
    · go_wp2_with fail
      go_meet
      rw [ENO.out (by first | rfl | trivial)]
      exact p2
    · obtain ⟨z, hm, hG⟩ := p2
      have cr := rdnum_tot b 4611686018427387904 x2.2 w3 hG.rd (by decide)
      obtain ⟨r, hr⟩ : ∃ r, r = numS 4611686018427387904 x2.2 := ⟨_, rfl⟩
      rw [← hr] at cr
      have HR := hide hr
      clear hr
      have HE := hide (EYES.out (by first | rfl | trivial))
      rw [← HR.out] at HE
      clear EYES ENO
      go_wp2_with fail
      refine cr.mono ?_
      rintro e w5 ⟨rfl, hr5, ht5⟩
      have hgl := hG.v.lt
      have hG5 : GetG w w5 b r.2 g z := hG.read (s' := r.2) hb ht5 hr5
      have hgn := hG5.setSlot hb r.1 (by have := numS_le 4611686018427387904 x2.2; rw [← HR.out] at this; omega)
      have hgr := (⟨_, (by show _ = ({ x2.1 with slot := r.1 } : Ms); rw [← hm]; rfl), hgn⟩ : GetR w b g ({ x2.1 with slot := r.1 }, r.2) _)
      obtain ⟨j0, j1, j2, j3, j4, j5, j6, j7, j8, j9, j10, j11, j12, j13, j14, j15, j16, j17, j18, j19, j20, j21, j22, j23, j24, j25, j26, j27, j28⟩ := hG5.v.cells
      have fz := hG5.v.fz
      have hl5' := hG5.v.lt
      rw [← HE.out] at hgr
      have HGR := hide hgr
      clear hgr hgn hG5 hG hr5 ht5
      go_wp2_with fail
      go_meet
      exact HGR.out
  case rest =>
  have p3 := hcut
  obtain ⟨x3, hx3⟩ : ∃ x, x = st2 q x2 := ⟨_, rfl⟩
  have hf3 : x3.2.l.length ≤ 10000000 ∧ x3.1.has = false ∧ x3.1.kind = (k : Int) := by
    rw [hx3]
    refine ⟨Nat.le_trans (st2_len _ _) HX2.out.2.1, ?_, ?_⟩
    · have := HX2.out.2.2.1; unfold st2; split <;> exact this
    · have := HX2.out.2.2.2; unfold st2; split <;> exact this
  rw [← hx3] at p3
  have HX3 := hide (And.intro hx3 hf3)
  clear hx3 hf3 p2 cw hcut
  obtain ⟨w3, hw3⟩ : ∃ x, x = wc := ⟨_, rfl⟩
  subst hw3
  -- the field 3
  have cw : ∀ W, Calls Tryz.prog 67 #[.int .u16 q, .int .u16 8] W (fun e w' => e = .returned (.bool (q.testBit 3)) ∧ W = w') := fun W => CW W 3 (by decide)
  obtain ⟨g3, hg3⟩ : ∃ g, g = q.testBit 3 := ⟨_, rfl⟩
  rw [← hg3] at cw
  have HG3 := hide hg3
  clear hg3
  go_upto_if 27 with (go_at_call 67; refine (cw _).mono ?_; rintro e w8 ⟨rfl, rfl⟩)
  go_cut [] (fun wx => GetR w b g (st3 q x3) wx)
  case first =>
    have eno : g3 = false → st3 q x3 = x3 := fun h => by unfold st3; rw [← HG3.out, h]; rfl
    have eyes : g3 = true → st3 q x3 = ({ x3.1 with b := (balS x3.2).1 }, (balS x3.2).2) := fun h => by unfold st3; rw [← HG3.out, h]; rfl
    have ENO := hide eno
    have EYES := hide eyes
    clear eno eyes
    cases g3
    · go_wp2_with fail
      go_meet
      rw [ENO.out (by first | rfl | trivial)]
      exact p3
    · obtain ⟨z, hm, hG⟩ := p3
      have cr := rdballot_tot b x3.2 w3 hG.rd
      obtain ⟨r, hr⟩ : ∃ r, r = balS x3.2 := ⟨_, rfl⟩
      rw [← hr] at cr
      have HR := hide hr
      clear hr
      have HE := hide (EYES.out (by first | rfl | trivial))
      rw [← HR.out] at HE
      clear EYES ENO
      go_wp2_with fail
      refine cr.mono ?_
      rintro e w5 ⟨rfl, hr5, ht5⟩
      have hgl := hG.v.lt
      have hG5 : GetG w w5 b r.2 g z := hG.read (s' := r.2) hb ht5 hr5
      have hgn := hG5.setB hb r.1
      have hgr := (⟨_, (by show _ = ({ x3.1 with b := r.1 } : Ms); rw [← hm]; rfl), hgn⟩ : GetR w b g ({ x3.1 with b := r.1 }, r.2) _)
      obtain ⟨j0, j1, j2, j3, j4, j5, j6, j7, j8, j9, j10, j11, j12, j13, j14, j15, j16, j17, j18, j19, j20, j21, j22, j23, j24, j25, j26, j27, j28⟩ := hG5.v.cells
      have fz := hG5.v.fz
      have hl5' := hG5.v.lt
      rw [← HE.out] at hgr
      have HGR := hide hgr
      clear hgr hgn hG5 hG hr5 ht5
      go_wp2_with fail
      go_meet
      exact HGR.out
  case rest =>
  have p4 := hcut
  obtain ⟨x4, hx4⟩ : ∃ x, x = st3 q x3 := ⟨_, rfl⟩
  have hf4 : x4.2.l.length ≤ 10000000 ∧ x4.1.has = false ∧ x4.1.kind = (k : Int) := by
    rw [hx4]
    refine ⟨Nat.le_trans (st3_len _ _) HX3.out.2.1, ?_, ?_⟩
    · have := HX3.out.2.2.1; unfold st3; split <;> exact this
    · have := HX3.out.2.2.2; unfold st3; split <;> exact this
  rw [← hx4] at p4
  have HX4 := hide (And.intro hx4 hf4)
  clear hx4 hf4 p3 cw hcut
  obtain ⟨w3, hw3⟩ : ∃ x, x = wc := ⟨_, rfl⟩
  subst hw3
  -- the field 4
  have cw : ∀ W, Calls Tryz.prog 67 #[.int .u16 q, .int .u16 16] W (fun e w' => e = .returned (.bool (q.testBit 4)) ∧ W = w') := fun W => CW W 4 (by decide)
  obtain ⟨g4, hg4⟩ : ∃ g, g = q.testBit 4 := ⟨_, rfl⟩
  rw [← hg4] at cw
  have HG4 := hide hg4
  clear hg4
  go_upto_if 32 with (go_at_call 67; refine (cw _).mono ?_; rintro e w8 ⟨rfl, rfl⟩)
  go_cut [] (fun wx => GetR w b g (st4 q x4) wx)
  case first =>
    have eno : g4 = false → st4 q x4 = x4 := fun h => by unfold st4; rw [← HG4.out, h]; rfl
    have eyes : g4 = true → st4 q x4 = ({ x4.1 with num := (numS 4611686018427387904 x4.2).1 }, (numS 4611686018427387904 x4.2).2) := fun h => by unfold st4; rw [← HG4.out, h]; rfl
    have ENO := hide eno
    have EYES := hide eyes
    clear eno eyes
    cases g4
    · go_wp2_with fail
      go_meet
      rw [ENO.out (by first | rfl | trivial)]
      exact p4
    · obtain ⟨z, hm, hG⟩ := p4
      have cr := rdnum_tot b 4611686018427387904 x4.2 w3 hG.rd (by decide)
      obtain ⟨r, hr⟩ : ∃ r, r = numS 4611686018427387904 x4.2 := ⟨_, rfl⟩
      rw [← hr] at cr
      have HR := hide hr
      clear hr
      have HE := hide (EYES.out (by first | rfl | trivial))
      rw [← HR.out] at HE
      clear EYES ENO
      go_wp2_with fail
      refine cr.mono ?_
      rintro e w5 ⟨rfl, hr5, ht5⟩
      have hgl := hG.v.lt
      have hG5 : GetG w w5 b r.2 g z := hG.read (s' := r.2) hb ht5 hr5
      have hgn := hG5.setNum hb r.1 (by have := numS_le 4611686018427387904 x4.2; rw [← HR.out] at this; omega)
      have hgr := (⟨_, (by show _ = ({ x4.1 with num := r.1 } : Ms); rw [← hm]; rfl), hgn⟩ : GetR w b g ({ x4.1 with num := r.1 }, r.2) _)
      obtain ⟨j0, j1, j2, j3, j4, j5, j6, j7, j8, j9, j10, j11, j12, j13, j14, j15, j16, j17, j18, j19, j20, j21, j22, j23, j24, j25, j26, j27, j28⟩ := hG5.v.cells
      have fz := hG5.v.fz
      have hl5' := hG5.v.lt
      rw [← HE.out] at hgr
      have HGR := hide hgr
      clear hgr hgn hG5 hG hr5 ht5
      go_wp2_with fail
      go_meet
      exact HGR.out
  case rest =>
  have p5 := hcut
  obtain ⟨x5, hx5⟩ : ∃ x, x = st4 q x4 := ⟨_, rfl⟩
  have hf5 : x5.2.l.length ≤ 10000000 ∧ x5.1.has = false ∧ x5.1.kind = (k : Int) := by
    rw [hx5]
    refine ⟨Nat.le_trans (st4_len _ _) HX4.out.2.1, ?_, ?_⟩
    · have := HX4.out.2.2.1; unfold st4; split <;> exact this
    · have := HX4.out.2.2.2; unfold st4; split <;> exact this
  rw [← hx5] at p5
  have HX5 := hide (And.intro hx5 hf5)
  clear hx5 hf5 p4 cw hcut
  obtain ⟨w3, hw3⟩ : ∃ x, x = wc := ⟨_, rfl⟩
  subst hw3
  -- the field 5
  have cw : ∀ W, Calls Tryz.prog 67 #[.int .u16 q, .int .u16 32] W (fun e w' => e = .returned (.bool (q.testBit 5)) ∧ W = w') := fun W => CW W 5 (by decide)
  obtain ⟨g5, hg5⟩ : ∃ g, g = q.testBit 5 := ⟨_, rfl⟩
  rw [← hg5] at cw
  have HG5 := hide hg5
  clear hg5
  go_upto_if 37 with (go_at_call 67; refine (cw _).mono ?_; rintro e w8 ⟨rfl, rfl⟩)
  go_cut [] (fun wx => GetR w b g (st5 q x5) wx)
  case first =>
    have eno : g5 = false → st5 q x5 = x5 := fun h => by unfold st5; rw [← HG5.out, h]; rfl
    have eyes : g5 = true → st5 q x5 = ({ x5.1 with hops := ((numS 4 x5.2).1 : Nat) }, (numS 4 x5.2).2) := fun h => by unfold st5; rw [← HG5.out, h]; rfl
    have ENO := hide eno
    have EYES := hide eyes
    clear eno eyes
    cases g5
    · go_wp2_with fail
      go_meet
      rw [ENO.out (by first | rfl | trivial)]
      exact p5
    · obtain ⟨z, hm, hG⟩ := p5
      have cr := rdnum_tot b 4 x5.2 w3 hG.rd (by decide)
      obtain ⟨r, hr⟩ : ∃ r, r = numS 4 x5.2 := ⟨_, rfl⟩
      rw [← hr] at cr
      have HR := hide hr
      clear hr
      have HE := hide (EYES.out (by first | rfl | trivial))
      rw [← HR.out] at HE
      clear EYES ENO
      go_wp2_with fail
      refine cr.mono ?_
      rintro e w5 ⟨rfl, hr5, ht5⟩
      have hgl := hG.v.lt
      have hG5 : GetG w w5 b r.2 g z := hG.read (s' := r.2) hb ht5 hr5
      have wr : IntKind.i64.wrap ((r.1 : Nat) : Int) = ((r.1 : Nat) : Int) := by have := numS_le 4 x5.2; rw [← HR.out] at this; rw [IntKind.wrap_i64]; omega
      have hgn := hG5.setHops hb r.1 (by have := numS_le 4 x5.2; rw [← HR.out] at this; omega)
      have hgr := (⟨_, (by show _ = ({ x5.1 with hops := (r.1 : Nat) } : Ms); rw [← hm]; rfl), hgn⟩ : GetR w b g ({ x5.1 with hops := (r.1 : Nat) }, r.2) _)
      obtain ⟨j0, j1, j2, j3, j4, j5, j6, j7, j8, j9, j10, j11, j12, j13, j14, j15, j16, j17, j18, j19, j20, j21, j22, j23, j24, j25, j26, j27, j28⟩ := hG5.v.cells
      have fz := hG5.v.fz
      have hl5' := hG5.v.lt
      rw [← HE.out] at hgr
      have HGR := hide hgr
      clear hgr hgn hG5 hG hr5 ht5
      go_wp2_with fail
      go_meet
      exact HGR.out
  case rest =>
  have p6 := hcut
  obtain ⟨x6, hx6⟩ : ∃ x, x = st5 q x5 := ⟨_, rfl⟩
  have hf6 : x6.2.l.length ≤ 10000000 ∧ x6.1.has = false ∧ x6.1.kind = (k : Int) := by
    rw [hx6]
    refine ⟨Nat.le_trans (st5_len _ _) HX5.out.2.1, ?_, ?_⟩
    · have := HX5.out.2.2.1; unfold st5; split <;> exact this
    · have := HX5.out.2.2.2; unfold st5; split <;> exact this
  rw [← hx6] at p6
  have HX6 := hide (And.intro hx6 hf6)
  clear hx6 hf6 p5 cw hcut
  obtain ⟨w3, hw3⟩ : ∃ x, x = wc := ⟨_, rfl⟩
  subst hw3
  -- the field 6
  have cw : ∀ W, Calls Tryz.prog 67 #[.int .u16 q, .int .u16 64] W (fun e w' => e = .returned (.bool (q.testBit 6)) ∧ W = w') := fun W => CW W 6 (by decide)
  obtain ⟨g6, hg6⟩ : ∃ g, g = q.testBit 6 := ⟨_, rfl⟩
  rw [← hg6] at cw
  have HG6 := hide hg6
  clear hg6
  go_upto_if 43 with (go_at_call 67; refine (cw _).mono ?_; rintro e w8 ⟨rfl, rfl⟩)
  go_cut [4] (fun s4 wx => s4 = .int .u16 ((bitsM (k : Int) (st6 q x6).1.has : Nat) : Int) ∧ GetR w b g (st6 q x6) wx)
  case first =>
    have eno : g6 = false → st6 q x6 = x6 := fun h => by unfold st6; rw [← HG6.out, h]; rfl
    have eyes : g6 = true → st6 q x6 = ({ x6.1 with has := (truS x6.2).1 }, (truS x6.2).2) := fun h => by unfold st6; rw [← HG6.out, h]; rfl
    have ENO := hide eno
    have EYES := hide eyes
    clear eno eyes
    cases g6
    · go_wp2_with fail
      go_meet
      rw [ENO.out (by first | rfl | trivial)]
      refine ⟨?_, p6⟩
      rw [HX6.out.2.2.1, HQ.out.2, ← HQ.out.1]
    · obtain ⟨z, hm, hG⟩ := p6
      have cr := rdtruth_tot b x6.2 w3 hG.rd
      obtain ⟨r, hr⟩ : ∃ r, r = truS x6.2 := ⟨_, rfl⟩
      rw [← hr] at cr
      have HR := hide hr
      clear hr
      have HE := hide (EYES.out (by first | rfl | trivial))
      rw [← HR.out] at HE
      clear EYES ENO
      go_wp2_with fail
      refine cr.mono ?_
      rintro e w5 ⟨rfl, hr5, ht5⟩
      have hgl := hG.v.lt
      have hG5 : GetG w w5 b r.2 g z := hG.read (s' := r.2) hb ht5 hr5
      have hgn := hG5.setHas hb r.1
      have hgr := (⟨_, (by show _ = ({ x6.1 with has := r.1 } : Ms); rw [← hm]; rfl), hgn⟩ : GetR w b g ({ x6.1 with has := r.1 }, r.2) _)
      obtain ⟨j0, j1, j2, j3, j4, j5, j6, j7, j8, j9, j10, j11, j12, j13, j14, j15, j16, j17, j18, j19, j20, j21, j22, j23, j24, j25, j26, j27, j28⟩ := hG5.v.cells
      have fz := hG5.v.fz
      have hl5' := hG5.v.lt
      obtain ⟨z6, hz6, hG6⟩ := hgr
      have v6 := hG6.v
      have cf := fieldsOf_any z6 _ (HKIN.out _ hG6.turn)
      have hzk : z6.kind = (k : Int) := (congrArg Ms.kind hz6).trans HX6.out.2.2.2
      have hzh : z6.has = (st6 q x6).1.has := by rw [HE.out]; exact congrArg Ms.has hz6
      rw [show bitsM z6.kind z6.has = bitsM (k : Int) (st6 q x6).1.has from by rw [hzk, hzh]] at cf
      have HG6' := hide hG6
      have HZ := hide hz6
      clear hzk hzh hgn hG5 hG hr5 ht5 hz6
      have hl6 := v6.lt
      go_upto_region 17 with fail
      go_wp2_with (refine wpList_load_msg z6 g rfl (.tmp 3) rfl rfl v6 ?_)
      refine cf.mono ?_
      rintro e w7 ⟨rfl, hb7⟩
      have hgr : GetR w b g (st6 q x6) w7 := by
        rw [HE.out]
        exact ⟨z6, HZ.out, HG6'.out.later hb7⟩
      clear hG6 v6 cf hb7 hl6
      go_wp2_with fail
      go_meet
      exact ⟨rfl, hgr⟩
  case rest =>
  obtain ⟨hs4, p7⟩ := hcut
  subst hs4
  obtain ⟨x7, hx7⟩ : ∃ x, x = st6 q x6 := ⟨_, rfl⟩
  have hf7 : x7.2.l.length ≤ 10000000 := by rw [hx7]; exact Nat.le_trans (st6_len _ _) HX6.out.2.1
  rw [← hx7] at p7 ⊢
  have HX7 := hide (And.intro hx7 hf7)
  clear hx7 hf7 p6 cw
  obtain ⟨q', hq'⟩ : ∃ q, q = bitsM (k : Int) x7.1.has := ⟨_, rfl⟩
  have hq1' : q' < 2048 := by rw [hq']; exact bitsM_lt _ _
  rw [← hq']
  have HQ' := hide hq'
  clear hq' CW
  have CW' := fun W i (hi : i < 11) => fwith_any q' (2 ^ i) W (q'.testBit i) (by omega) (Nat.lt_of_lt_of_le (Nat.pow_lt_pow_right (by decide) hi) (by decide)) (with_bit q' i).symm
  obtain ⟨w3, hw3⟩ : ∃ x, x = wc := ⟨_, rfl⟩
  subst hw3
  -- the field 7
  have cw : ∀ W, Calls Tryz.prog 67 #[.int .u16 q', .int .u16 128] W (fun e w' => e = .returned (.bool (q'.testBit 7)) ∧ W = w') := fun W => CW' W 7 (by decide)
  obtain ⟨g7, hg7⟩ : ∃ g, g = q'.testBit 7 := ⟨_, rfl⟩
  rw [← hg7] at cw
  have HG7 := hide hg7
  clear hg7
  go_upto_if 50 with (go_at_call 67; refine (cw _).mono ?_; rintro e w8 ⟨rfl, rfl⟩)
  go_cut [] (fun wx => GetR w b g (st7 q' x7) wx)
  case first =>
    have eno : g7 = false → st7 q' x7 = x7 := fun h => by unfold st7; rw [← HG7.out, h]; rfl
    have eyes : g7 = true → st7 q' x7 = ({ x7.1 with a := (balS x7.2).1 }, (balS x7.2).2) := fun h => by unfold st7; rw [← HG7.out, h]; rfl
    have ENO := hide eno
    have EYES := hide eyes
    clear eno eyes
    cases g7
    · go_wp2_with fail
      go_meet
      rw [ENO.out (by first | rfl | trivial)]
      exact p7
    · obtain ⟨z, hm, hG⟩ := p7
      have cr := rdballot_tot b x7.2 w3 hG.rd
      obtain ⟨r, hr⟩ : ∃ r, r = balS x7.2 := ⟨_, rfl⟩
      rw [← hr] at cr
      have HR := hide hr
      clear hr
      have HE := hide (EYES.out (by first | rfl | trivial))
      rw [← HR.out] at HE
      clear EYES ENO
      go_wp2_with fail
      refine cr.mono ?_
      rintro e w5 ⟨rfl, hr5, ht5⟩
      have hgl := hG.v.lt
      have hG5 : GetG w w5 b r.2 g z := hG.read (s' := r.2) hb ht5 hr5
      have hgn := hG5.setA hb r.1
      have hgr := (⟨_, (by show _ = ({ x7.1 with a := r.1 } : Ms); rw [← hm]; rfl), hgn⟩ : GetR w b g ({ x7.1 with a := r.1 }, r.2) _)
      obtain ⟨j0, j1, j2, j3, j4, j5, j6, j7, j8, j9, j10, j11, j12, j13, j14, j15, j16, j17, j18, j19, j20, j21, j22, j23, j24, j25, j26, j27, j28⟩ := hG5.v.cells
      have fz := hG5.v.fz
      have hl5' := hG5.v.lt
      rw [← HE.out] at hgr
      have HGR := hide hgr
      clear hgr hgn hG5 hG hr5 ht5
      go_wp2_with fail
      go_meet
      exact HGR.out
  case rest =>
  have p8 := hcut
  obtain ⟨x8, hx8⟩ : ∃ x, x = st7 q' x7 := ⟨_, rfl⟩
  have hf8 : x8.2.l.length ≤ 10000000 := by rw [hx8]; exact Nat.le_trans (st7_len _ _) HX7.out.2
  rw [← hx8] at p8
  have HX8 := hide (And.intro hx8 hf8)
  clear hx8 hf8 p7 cw hcut
  obtain ⟨w3, hw3⟩ : ∃ x, x = wc := ⟨_, rfl⟩
  subst hw3
  -- the field 8
  have cw : ∀ W, Calls Tryz.prog 67 #[.int .u16 q', .int .u16 256] W (fun e w' => e = .returned (.bool (q'.testBit 8)) ∧ W = w') := fun W => CW' W 8 (by decide)
  obtain ⟨g8, hg8⟩ : ∃ g, g = q'.testBit 8 := ⟨_, rfl⟩
  rw [← hg8] at cw
  have HG8 := hide hg8
  clear hg8
  go_upto_if 55 with (go_at_call 67; refine (cw _).mono ?_; rintro e w8 ⟨rfl, rfl⟩)
  go_cut [] (fun wx => GetR w b g (st8 q' x8) wx)
  case first =>
    have eno : g8 = false → st8 q' x8 = x8 := fun h => by unfold st8; rw [← HG8.out, h]; rfl
    have eyes : g8 = true → st8 q' x8 = ({ x8.1 with c := (cmdS x8.2).1 }, (cmdS x8.2).2) := fun h => by unfold st8; rw [← HG8.out, h]; rfl
    have ENO := hide eno
    have EYES := hide eyes
    clear eno eyes
    cases g8
    · go_wp2_with fail
      go_meet
      rw [ENO.out (by first | rfl | trivial)]
      exact p8
    · obtain ⟨z, hm, hG⟩ := p8
      have cr := cget_tot b x8.2 w3 hG.rd (by have := HX8.out.2; omega)
      obtain ⟨r, hr⟩ : ∃ r, r = cmdS x8.2 := ⟨_, rfl⟩
      rw [← hr] at cr
      have HR := hide hr
      clear hr
      have HE := hide (EYES.out (by first | rfl | trivial))
      rw [← HR.out] at HE
      clear EYES ENO
      unfold CGetT at cr
      go_wp2_with fail
      refine cr.mono ?_
      rintro e w5 ⟨y, rfl, hy1, hy2, hy3, hy4, hr5, ht5⟩
      have hgl := hG.v.lt
      have hG5 : GetG w w5 b r.2 g z := hG.read (s' := r.2) hb ht5 hr5
      have hgn := hG5.setC hb y (hy2.mono (by omega)) hy3 hy4
      have hgr := (⟨_, (by show _ = ({ x8.1 with c := r.1 } : Ms); rw [← hm, ← hy1]; rfl), hgn⟩ : GetR w b g ({ x8.1 with c := r.1 }, r.2) _)
      obtain ⟨j0, j1, j2, j3, j4, j5, j6, j7, j8, j9, j10, j11, j12, j13, j14, j15, j16, j17, j18, j19, j20, j21, j22, j23, j24, j25, j26, j27, j28⟩ := hG5.v.cells
      have fz := hG5.v.fz
      have hl5' := hG5.v.lt
      rw [← HE.out] at hgr
      have HGR := hide hgr
      clear hgr hgn hG5 hG hr5 ht5
      go_wp2_with fail
      go_meet
      exact HGR.out
  case rest =>
  have p9 := hcut
  obtain ⟨x9, hx9⟩ : ∃ x, x = st8 q' x8 := ⟨_, rfl⟩
  have hf9 : x9.2.l.length ≤ 10000000 := by rw [hx9]; exact Nat.le_trans (st8_len _ _) HX8.out.2
  rw [← hx9] at p9
  have HX9 := hide (And.intro hx9 hf9)
  clear hx9 hf9 p8 cw hcut
  obtain ⟨w3, hw3⟩ : ∃ x, x = wc := ⟨_, rfl⟩
  subst hw3
  -- the field 9
  have cw : ∀ W, Calls Tryz.prog 67 #[.int .u16 q', .int .u16 512] W (fun e w' => e = .returned (.bool (q'.testBit 9)) ∧ W = w') := fun W => CW' W 9 (by decide)
  obtain ⟨g9, hg9⟩ : ∃ g, g = q'.testBit 9 := ⟨_, rfl⟩
  rw [← hg9] at cw
  have HG9 := hide hg9
  clear hg9
  go_upto_if 60 with (go_at_call 67; refine (cw _).mono ?_; rintro e w8 ⟨rfl, rfl⟩)
  go_cut [] (fun wx => GetR w b g (st9 q' x9) wx)
  case first =>
    have eno : g9 = false → st9 q' x9 = x9 := fun h => by unfold st9; rw [← HG9.out, h]; rfl
    have eyes : g9 = true → st9 q' x9 = ({ x9.1 with v := (viewS x9.2).1 }, (viewS x9.2).2) := fun h => by unfold st9; rw [← HG9.out, h]; rfl
    have ENO := hide eno
    have EYES := hide eyes
    clear eno eyes
    cases g9
    · go_wp2_with fail
      go_meet
      rw [ENO.out (by first | rfl | trivial)]
      exact p9
    · obtain ⟨z, hm, hG⟩ := p9
      have cr := vget_tot b x9.2 w3 hG.rd
      obtain ⟨r, hr⟩ : ∃ r, r = viewS x9.2 := ⟨_, rfl⟩
      rw [← hr] at cr
      have HR := hide hr
      clear hr
      have HE := hide (EYES.out (by first | rfl | trivial))
      rw [← HR.out] at HE
      clear EYES ENO
      unfold VGetT at cr
      go_wp2_with fail
      refine cr.mono ?_
      rintro e w5 ⟨y, rfl, hy1, hy2, hy3, hy4, hr5, ht5⟩
      have hgl := hG.v.lt
      have hG5 : GetG w w5 b r.2 g z := hG.read (s' := r.2) hb ht5 hr5
      have hgn := hG5.setV hb y (hy2.mono (by omega)) hy3 hy4
      have hgr := (⟨_, (by show _ = ({ x9.1 with v := r.1 } : Ms); rw [← hm, ← hy1]; rfl), hgn⟩ : GetR w b g ({ x9.1 with v := r.1 }, r.2) _)
      obtain ⟨j0, j1, j2, j3, j4, j5, j6, j7, j8, j9, j10, j11, j12, j13, j14, j15, j16, j17, j18, j19, j20, j21, j22, j23, j24, j25, j26, j27, j28⟩ := hG5.v.cells
      have fz := hG5.v.fz
      have hl5' := hG5.v.lt
      rw [← HE.out] at hgr
      have HGR := hide hgr
      clear hgr hgn hG5 hG hr5 ht5
      go_wp2_with fail
      go_meet
      exact HGR.out
  case rest =>
  have p10 := hcut
  obtain ⟨x10, hx10⟩ : ∃ x, x = st9 q' x9 := ⟨_, rfl⟩
  have hf10 : x10.2.l.length ≤ 10000000 := by rw [hx10]; exact Nat.le_trans (st9_len _ _) HX9.out.2
  rw [← hx10] at p10
  have HX10 := hide (And.intro hx10 hf10)
  clear hx10 hf10 p9 cw hcut
  obtain ⟨w3, hw3⟩ : ∃ x, x = wc := ⟨_, rfl⟩
  subst hw3
  -- the field 10
  have cw : ∀ W, Calls Tryz.prog 67 #[.int .u16 q', .int .u16 1024] W (fun e w' => e = .returned (.bool (q'.testBit 10)) ∧ W = w') := fun W => CW' W 10 (by decide)
  obtain ⟨g10, hg10⟩ : ∃ g, g = q'.testBit 10 := ⟨_, rfl⟩
  rw [← hg10] at cw
  have HG10 := hide hg10
  clear hg10
  go_upto_if 65 with (go_at_call 67; refine (cw _).mono ?_; rintro e w8 ⟨rfl, rfl⟩)
  go_cut [] (fun wx => GetR w b g (st10 q' x10) wx)
  case first =>
    have eno : g10 = false → st10 q' x10 = x10 := fun h => by unfold st10; rw [← HG10.out, h]; rfl
    have eyes : g10 = true → st10 q' x10 = ({ x10.1 with d := (bytS 200 x10.2).1 }, (bytS 200 x10.2).2) := fun h => by unfold st10; rw [← HG10.out, h]; rfl
    have ENO := hide eno
    have EYES := hide eyes
    clear eno eyes
    cases g10
    · go_wp2_with fail
      go_meet
      rw [ENO.out (by first | rfl | trivial)]
      exact p10
    · obtain ⟨z, hm, hG⟩ := p10
      have cr := rdbytes_tot b 200 x10.2 w3 hG.rd (by decide) (by have := HX10.out.2; omega)
      obtain ⟨r, hr⟩ : ∃ r, r = bytS 200 x10.2 := ⟨_, rfl⟩
      rw [← hr] at cr
      have HR := hide hr
      clear hr
      have HE := hide (EYES.out (by first | rfl | trivial))
      rw [← HR.out] at HE
      clear EYES ENO
      unfold BytT at cr
      go_wp2_with fail
      refine cr.mono ?_
      rintro e w5 ⟨A5, c5, rfl, ho5, hr5, ht5⟩
      have hgl := hG.v.lt
      have hG5 : GetG w w5 b r.2 g z := hG.read (s' := r.2) hb ht5 hr5
      have hl5 : r.1.length ≤ 200 := by have := bytS_le 200 x10.2; rw [← HR.out] at this; exact this
      have hgn := hG5.setD hb A5 r.1.length c5 r.1 (ho5.mono (by omega)) (by omega)
      have hgr := (⟨_, (by show _ = ({ x10.1 with d := r.1 } : Ms); rw [← hm]; rfl), hgn⟩ : GetR w b g ({ x10.1 with d := r.1 }, r.2) _)
      obtain ⟨j0, j1, j2, j3, j4, j5, j6, j7, j8, j9, j10, j11, j12, j13, j14, j15, j16, j17, j18, j19, j20, j21, j22, j23, j24, j25, j26, j27, j28⟩ := hG5.v.cells
      have fz := hG5.v.fz
      have hl5' := hG5.v.lt
      rw [← HE.out] at hgr
      have HGR := hide hgr
      clear hgr hgn hG5 hG hr5 ht5
      go_wp2_with fail
      go_meet
      exact HGR.out
  case rest =>
  have p11 := hcut
  obtain ⟨x11, hx11⟩ : ∃ x, x = st10 q' x10 := ⟨_, rfl⟩
  have hf11 : True := trivial
  rw [← hx11] at p11
  have HX11 := hide (And.intro hx11 hf11)
  clear hx11 hf11 p10 cw hcut
  obtain ⟨w3, hw3⟩ : ∃ x, x = wc := ⟨_, rfl⟩
  subst hw3
  have hfin : x11 = getM s := by
    unfold getM getB getA
    rw [HX11.out.1, HX10.out.1, HX9.out.1, HX8.out.1, HQ'.out, HX7.out.1, HX6.out.1, HX5.out.1, HX4.out.1, HX3.out.1, HX2.out.1, HX1.out.1, HX0.out.1, HQ.out.1, HK.out.1, HK.out.2]
  rw [hfin] at p11
  obtain ⟨z, hm, hG⟩ := p11
  have hgl := hG.v.lt
  have hv := hG.v
  have hrr := hG.r
  have fin : ∀ W', StoM w3 w.heap.size z W' → GetP10 w b (getM s) (.returned (.agg #[.int .i64 z.kind, .int .u16 z.who.i, .int .u32 z.who.k, .int .u64 z.view, .int .u64 z.slot, .int .u64 z.num, .int .i64 z.hops, .int .u32 z.b.r, .int .u16 z.b.p.i, .int .u32 z.b.p.k, .int .u32 z.a.r, .int .u16 z.a.p.i, .int .u32 z.a.p.k, .bool z.has, .int .i64 z.y.kind, .int .u16 z.y.p.i, .int .u32 z.y.p.k, .int .u64 z.y.num, .int .u64 z.y.vn, .slice z.y.A z.y.n z.y.c, .int .u64 z.y.x.id, .slice z.y.x.A z.y.x.m z.y.x.c, .slice z.y.x.B z.y.x.d z.y.x.e, .slice z.y.x.C z.y.x.f z.y.x.g, .int .u64 z.x.id, .slice z.x.A z.x.m z.x.c, .slice z.x.B z.x.d z.x.e, .slice z.x.C z.x.f z.x.g, .slice z.A z.n z.c])) W' := fun W' hst =>
    ⟨z, rfl, hm, (hG.own.turnLow hst.turn1 (by omega)).mono (by omega), hG.num, hG.sm, hG.rd.turn hst.turn1 hb (fun g hg => by cases hg), hst.turn hG.turn (Nat.le_refl _)⟩
  have HFI := hide fin
  clear fin hG hm hfin
  go_wp2_with (first | (refine wpList_load_msg z g rfl (.tmp 3) rfl rfl hv ?_) | (refine wpList_store_msg z zeroM w.heap.size rfl (.tmp 2) (.tmp 69) rfl rfl rfl hrr ?_))
  intro w5 hst
  have hv5 := hst.at_ hrr
  have hf := HFI.out w5 hst
  go_wp2_with fail
  exact bodyPost_ret (v := .agg #[.int .i64 z.kind, .int .u16 z.who.i, .int .u32 z.who.k, .int .u64 z.view, .int .u64 z.slot, .int .u64 z.num, .int .i64 z.hops, .int .u32 z.b.r, .int .u16 z.b.p.i, .int .u32 z.b.p.k, .int .u32 z.a.r, .int .u16 z.a.p.i, .int .u32 z.a.p.k, .bool z.has, .int .i64 z.y.kind, .int .u16 z.y.p.i, .int .u32 z.y.p.k, .int .u64 z.y.num, .int .u64 z.y.vn, .slice z.y.A z.y.n z.y.c, .int .u64 z.y.x.id, .slice z.y.x.A z.y.x.m z.y.x.c, .slice z.y.x.B z.y.x.d z.y.x.e, .slice z.y.x.C z.y.x.f z.y.x.g, .int .u64 z.x.id, .slice z.x.A z.x.m z.x.c, .slice z.x.B z.x.d z.x.e, .slice z.x.C z.x.f z.x.g, .slice z.A z.n z.c]) (results_cell_row Tryz.results50 _ _ (w.heap.size) _ _ _ _ rfl hv5 Tryz.underlying50 rfl size_msg) rfl hf
end Go.Proofs.YtjmkecaljkcoiaaGreatDoor
