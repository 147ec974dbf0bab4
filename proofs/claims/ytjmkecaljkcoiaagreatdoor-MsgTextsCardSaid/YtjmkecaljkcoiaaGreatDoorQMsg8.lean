import Derived.Deep.DeepCutAuto
import Derived.Test.YtjmkecaljkcoiaaGreatDoorQMsg8M
namespace Go.Proofs.YtjmkecaljkcoiaaGreatDoor
open Go.RowKit Go.Maps
set_option linter.unusedVariables false
set_option linter.unusedSimpArgs false
structure ChkR (w : World) (z : Mx) (W : World) : Prop where
  at_ : MAt10 W w.heap.size z
  below : Below w.heap.size w W
theorem ChkR.later {w : World} {z : Mx} {W W' : World} (h : ChkR w z W) (hb : Below W.heap.size W W') : ChkR w z W' := ⟨h.at_.later hb, h.below.trans (hb.mono h.below.size)⟩
theorem ne_iff {b : Bool} {P : Prop} (h : b = true ↔ P) (hb : b = false) : ¬ P := fun e => by rw [h.2 e] at hb; cases hb
set_option maxRecDepth 100000 in
set_option maxHeartbeats 40000000 in
theorem rcheck10_any (z : Mx) (B : Nat) (w : World) (t : Bool) (h : MxIn w B z) (hs : MSmall z) (hB : B ≤ w.heap.size) (ht : t = true ↔ MayM z.m) :
    Calls Tryz.prog 62 #[.agg #[.int .i64 z.kind, .int .u16 z.who.i, .int .u32 z.who.k, .int .u64 z.view, .int .u64 z.slot, .int .u64 z.num, .int .i64 z.hops, .int .u32 z.b.r, .int .u16 z.b.p.i, .int .u32 z.b.p.k, .int .u32 z.a.r, .int .u16 z.a.p.i, .int .u32 z.a.p.k, .bool z.has, .int .i64 z.y.kind, .int .u16 z.y.p.i, .int .u32 z.y.p.k, .int .u64 z.y.num, .int .u64 z.y.vn, .slice z.y.A z.y.n z.y.c, .int .u64 z.y.x.id, .slice z.y.x.A z.y.x.m z.y.x.c, .slice z.y.x.B z.y.x.d z.y.x.e, .slice z.y.x.C z.y.x.f z.y.x.g, .int .u64 z.x.id, .slice z.x.A z.x.m z.x.c, .slice z.x.B z.x.d z.x.e, .slice z.x.C z.x.f z.x.g, .slice z.A z.n z.c]] w fun e w' => e = .returned (.bool t) ∧ Below w.heap.size w w' := by
  have hbz : Below w.heap.size w (w.alloc (.cells #[.int .i64 z.kind, .int .u16 z.who.i, .int .u32 z.who.k, .int .u64 z.view, .int .u64 z.slot, .int .u64 z.num, .int .i64 z.hops, .int .u32 z.b.r, .int .u16 z.b.p.i, .int .u32 z.b.p.k, .int .u32 z.a.r, .int .u16 z.a.p.i, .int .u32 z.a.p.k, .bool z.has, .int .i64 z.y.kind, .int .u16 z.y.p.i, .int .u32 z.y.p.k, .int .u64 z.y.num, .int .u64 z.y.vn, .slice z.y.A z.y.n z.y.c, .int .u64 z.y.x.id, .slice z.y.x.A z.y.x.m z.y.x.c, .slice z.y.x.B z.y.x.d z.y.x.e, .slice z.y.x.C z.y.x.f z.y.x.g, .int .u64 z.x.id, .slice z.x.A z.x.m z.x.c, .slice z.x.B z.x.d z.x.e, .slice z.x.C z.x.f z.x.g, .slice z.A z.n z.c] 50)) := (Below.refl _ _).alloc (Nat.le_refl _) _
  have v0 := MAt10.mk_ w z
  have cf := fields10_any z.kind (w.alloc (.cells #[.int .i64 z.kind, .int .u16 z.who.i, .int .u32 z.who.k, .int .u64 z.view, .int .u64 z.slot, .int .u64 z.num, .int .i64 z.hops, .int .u32 z.b.r, .int .u16 z.b.p.i, .int .u32 z.b.p.k, .int .u32 z.a.r, .int .u16 z.a.p.i, .int .u32 z.a.p.k, .bool z.has, .int .i64 z.y.kind, .int .u16 z.y.p.i, .int .u32 z.y.p.k, .int .u64 z.y.num, .int .u64 z.y.vn, .slice z.y.A z.y.n z.y.c, .int .u64 z.y.x.id, .slice z.y.x.A z.y.x.m z.y.x.c, .slice z.y.x.B z.y.x.d z.y.x.e, .slice z.y.x.C z.y.x.f z.y.x.g, .int .u64 z.x.id, .slice z.x.A z.x.m z.x.c, .slice z.x.B z.x.d z.x.e, .slice z.x.C z.x.f z.x.g, .slice z.A z.n z.c] 50)) h.k0 h.k1
  rw [may_ref] at ht
  obtain ⟨s, hsd⟩ : ∃ s, s = tx10 (fldI z.kind) := ⟨_, rfl⟩
  have hsl : s.toList = fldI z.kind := by rw [hsd]; unfold tx10; rw [ByteArray.toList_mk]
  rw [← hsd] at cf
  have HAS : ∀ (c : UInt8) W, Calls Tryz.prog 72 #[.string s, .int .u8 c.toNat] W (fun e w' => e = .returned (.bool (letB z.kind c)) ∧ W = w') := fun c W => by
    rw [hsd]
    exact has10_any c (fldI z.kind) W (letB z.kind c) (Nat.le_trans (fldT_len _) (by decide)) rfl
  obtain ⟨h_w, e_w⟩ : ∃ b, b = letB z.kind 119 := ⟨_, rfl⟩
  have H_w : ∀ W, Calls Tryz.prog 72 #[.string s, .int .u8 119] W (fun e w' => e = .returned (.bool h_w) ∧ W = w') := fun W => by rw [e_w]; exact HAS 119 W
  obtain ⟨h_v, e_v⟩ : ∃ b, b = letB z.kind 118 := ⟨_, rfl⟩
  have H_v : ∀ W, Calls Tryz.prog 72 #[.string s, .int .u8 118] W (fun e w' => e = .returned (.bool h_v) ∧ W = w') := fun W => by rw [e_v]; exact HAS 118 W
  obtain ⟨h_s, e_s⟩ : ∃ b, b = letB z.kind 115 := ⟨_, rfl⟩
  have H_s : ∀ W, Calls Tryz.prog 72 #[.string s, .int .u8 115] W (fun e w' => e = .returned (.bool h_s) ∧ W = w') := fun W => by rw [e_s]; exact HAS 115 W
  obtain ⟨h_n, e_n⟩ : ∃ b, b = letB z.kind 110 := ⟨_, rfl⟩
  have H_n : ∀ W, Calls Tryz.prog 72 #[.string s, .int .u8 110] W (fun e w' => e = .returned (.bool h_n) ∧ W = w') := fun W => by rw [e_n]; exact HAS 110 W
  obtain ⟨h_h, e_h⟩ : ∃ b, b = letB z.kind 104 := ⟨_, rfl⟩
  have H_h : ∀ W, Calls Tryz.prog 72 #[.string s, .int .u8 104] W (fun e w' => e = .returned (.bool h_h) ∧ W = w') := fun W => by rw [e_h]; exact HAS 104 W
  obtain ⟨h_y, e_y⟩ : ∃ b, b = letB z.kind 121 := ⟨_, rfl⟩
  have H_y : ∀ W, Calls Tryz.prog 72 #[.string s, .int .u8 121] W (fun e w' => e = .returned (.bool h_y) ∧ W = w') := fun W => by rw [e_y]; exact HAS 121 W
  obtain ⟨h_b, e_b⟩ : ∃ b, b = letB z.kind 98 := ⟨_, rfl⟩
  have H_b : ∀ W, Calls Tryz.prog 72 #[.string s, .int .u8 98] W (fun e w' => e = .returned (.bool h_b) ∧ W = w') := fun W => by rw [e_b]; exact HAS 98 W
  obtain ⟨h_p, e_p⟩ : ∃ b, b = letB z.kind 112 := ⟨_, rfl⟩
  have H_p : ∀ W, Calls Tryz.prog 72 #[.string s, .int .u8 112] W (fun e w' => e = .returned (.bool h_p) ∧ W = w') := fun W => by rw [e_p]; exact HAS 112 W
  obtain ⟨h_c, e_c⟩ : ∃ b, b = letB z.kind 99 := ⟨_, rfl⟩
  have H_c : ∀ W, Calls Tryz.prog 72 #[.string s, .int .u8 99] W (fun e w' => e = .returned (.bool h_c) ∧ W = w') := fun W => by rw [e_c]; exact HAS 99 W
  obtain ⟨h_V, e_V⟩ : ∃ b, b = letB z.kind 86 := ⟨_, rfl⟩
  have H_V : ∀ W, Calls Tryz.prog 72 #[.string s, .int .u8 86] W (fun e w' => e = .returned (.bool h_V) ∧ W = w') := fun W => by rw [e_V]; exact HAS 86 W
  have HE := hide (show h_w = letB z.kind 119 ∧ h_v = letB z.kind 118 ∧ h_s = letB z.kind 115 ∧ h_n = letB z.kind 110 ∧ h_h = letB z.kind 104 ∧ h_y = letB z.kind 121 ∧ h_b = letB z.kind 98 ∧ h_p = letB z.kind 112 ∧ h_c = letB z.kind 99 ∧ h_V = letB z.kind 86 from ⟨e_w, e_v, e_s, e_n, e_h, e_y, e_b, e_p, e_c, e_V⟩)
  have HH := hide (And.intro H_w (And.intro H_v (And.intro H_s (And.intro H_n (And.intro H_h (And.intro H_y (And.intro H_b (And.intro H_p (And.intro H_c H_V)))))))))
  clear HAS e_w H_w e_v H_v e_s H_s e_n H_n e_h H_h e_y H_y e_b H_b e_p H_p e_c H_c e_V H_V
  obtain ⟨r2, hr2⟩ := bool_of (bad2 z.m)
  obtain ⟨r4, hr4⟩ := bool_of (bad4 z.m)
  obtain ⟨r6, hr6⟩ := bool_of (bad6 z.m)
  obtain ⟨r8, hr8⟩ := bool_of (bad8 z.m)
  obtain ⟨r10, hr10⟩ := bool_of (bad10 z.m)
  obtain ⟨f, hf⟩ : ∃ f, f = z.has := ⟨_, rfl⟩
  obtain ⟨uC, huC⟩ := bool_of (ButLen z.y.m)
  obtain ⟨kC, hkC⟩ : ∃ k, k = ckE uC z.y.n := ⟨_, rfl⟩
  have hC1 : kC = 0 ↔ MayC z.y.m := by
    have e := ckE_may (c := z.y.m) huC
    rw [show z.y.m.d.length = z.y.n from h.cm.bs.len, ← hkC] at e
    exact e
  obtain ⟨nC, hnC⟩ := bool_of (z.y.m = zC 0 noV)
  obtain ⟨uV, huV⟩ := bool_of (MayV z.x.v)
  obtain ⟨nV, hnV⟩ := bool_of (z.x.v = noV)
  have CC := fun W (hb : Below w.heap.size w W) => rcheck9_any z.y B W uC (h.cm.below (hb.mono hB)) hs.c.v (Nat.le_trans hB hb.size) huC
  rw [← hkC] at CC
  have CN := fun W (hb : Below w.heap.size w W) => nocmd_any z.y B W nC (h.cm.below (hb.mono hB)) (Nat.le_trans hB hb.size) hnC
  have CV := fun W (hb : Below w.heap.size w W) => rcheck_any z.x B W uV (h.vw.below (hb.mono hB)) hs.v (Nat.le_trans hB hb.size) huV
  have CZ := fun W (hb : Below w.heap.size w W) => rvsame_any z.x zeroX B W.heap.size W nV (h.vw.below (hb.mono hB)) (zeroX_in W) (Nat.le_trans hB hb.size) (Nat.le_refl _) hnV
  have hlen := h.bs.len
  have HR := hide (show (r2 = true ↔ bad2 z.m) ∧ (r4 = true ↔ bad4 z.m) ∧ (r6 = true ↔ bad6 z.m) ∧ (r8 = true ↔ bad8 z.m) ∧ (r10 = true ↔ bad10 z.m) from ⟨hr2, hr4, hr6, hr8, hr10⟩)
  have HF := hide hf
  have HC := hide (And.intro hC1 (And.intro hnC (And.intro huV hnV)))
  have HT := hide ht
  have HSL := hide (And.intro hsl hlen)
  have HCALLS := hide (And.intro CC (And.intro CN (And.intro CV CZ)))
  clear hr2 hr4 hr6 hr8 hr10 hf hC1 hnC huV hnV huC hkC ht hlen h hs hsd hsl CC CN CV CZ
  have j0 := v0.cells.1
  have hlt := v0.lt
  generalize hw1 : w.alloc (.cells #[.int .i64 z.kind, .int .u16 z.who.i, .int .u32 z.who.k, .int .u64 z.view, .int .u64 z.slot, .int .u64 z.num, .int .i64 z.hops, .int .u32 z.b.r, .int .u16 z.b.p.i, .int .u32 z.b.p.k, .int .u32 z.a.r, .int .u16 z.a.p.i, .int .u32 z.a.p.k, .bool z.has, .int .i64 z.y.kind, .int .u16 z.y.p.i, .int .u32 z.y.p.k, .int .u64 z.y.num, .int .u64 z.y.vn, .slice z.y.A z.y.n z.y.c, .int .u64 z.y.x.id, .slice z.y.x.A z.y.x.m z.y.x.c, .slice z.y.x.B z.y.x.d z.y.x.e, .slice z.y.x.C z.y.x.f z.y.x.g, .int .u64 z.x.id, .slice z.x.A z.x.m z.x.c, .slice z.x.B z.x.d z.x.e, .slice z.x.C z.x.f z.x.g, .slice z.A z.n z.c] 50) = w1 at *
  go_enter Tryz.func62, Tryz.ntmps62
  go_wp2_with fail
  refine cf.mono ?_
  rintro e w2 ⟨rfl, hb⟩
  have c0 : ChkR w z w2 := ⟨v0.later hb, hbz.trans (hb.mono hbz.size)⟩
  clear cf hw1 v0 hb hbz j0 hlt
  go_upto_region 2 with fail
  go_cut [0, 39] (fun s0 s39 wx => s39 = .bool r2 ∧ ChkR w z wx)
  case first =>
    as_aux_lemma =>
    have hlt := c0.at_.lt
    have j3 := c0.at_.cells.2.2.2.1
    have j4 := c0.at_.cells.2.2.2.2.1
    have j5 := c0.at_.cells.2.2.2.2.2.1
    have j6 := c0.at_.cells.2.2.2.2.2.2.1
    have j28 := c0.at_.cells.2.2.2.2.2.2.2.2.2.2.2.2.2.2.2.2.2.2.2.2.2.2.2.2.2.2.2.2
    have hl : z.m.d.length = z.n := HSL.out.2
    have hx := HR.out.1
    by_cases q0 : fldI z.kind = []
    · obtain rfl : r2 = true := hx.2 (.inl q0)
      have q1 : s.toList = [] := by rw [HSL.out.1]; exact q0
      clear hx q0
      go_wp2_with fail
      go_meet
      exact ⟨rfl, c0⟩
    have q1 : ¬ s.toList = [] := by rw [HSL.out.1]; exact q0
    have q2 : s.toList.isEmpty = false := by rw [List.isEmpty_eq_false_iff]; exact q1
    by_cases q : 4611686018427387904 < z.view
    · obtain rfl : r2 = true := hx.2 (.inr (.inl q))
      have y0 : decide ((4611686018427387904 : Int) < (z.view : Int)) = true := decide_eq_true (by omega)
      clear hx q0 q hl
      go_wp2_with fail
      go_meet
      exact ⟨rfl, c0⟩
    have y0 : decide ((4611686018427387904 : Int) < (z.view : Int)) = false := decide_eq_false (by omega)
    have z0 := q
    clear q
    by_cases q : 4611686018427387904 < z.slot
    · obtain rfl : r2 = true := hx.2 (.inr (.inr (.inl q)))
      have y1 : decide ((4611686018427387904 : Int) < (z.slot : Int)) = true := decide_eq_true (by omega)
      clear hx q0 q hl
      go_wp2_with fail
      go_meet
      exact ⟨rfl, c0⟩
    have y1 : decide ((4611686018427387904 : Int) < (z.slot : Int)) = false := decide_eq_false (by omega)
    have z1 := q
    clear q
    by_cases q : 4611686018427387904 < z.num
    · obtain rfl : r2 = true := hx.2 (.inr (.inr (.inr (.inl q))))
      have y2 : decide ((4611686018427387904 : Int) < (z.num : Int)) = true := decide_eq_true (by omega)
      clear hx q0 q hl
      go_wp2_with fail
      go_meet
      exact ⟨rfl, c0⟩
    have y2 : decide ((4611686018427387904 : Int) < (z.num : Int)) = false := decide_eq_false (by omega)
    have z2 := q
    clear q
    by_cases q : z.hops < 0
    · obtain rfl : r2 = true := hx.2 (.inr (.inr (.inr (.inr (.inl q)))))
      have y3 : decide (z.hops < 0) = true := decide_eq_true (by omega)
      clear hx q0 q hl
      go_wp2_with fail
      go_meet
      exact ⟨rfl, c0⟩
    have y3 : decide (z.hops < 0) = false := decide_eq_false (by omega)
    have z3 := q
    clear q
    by_cases q : 4 < z.hops
    · obtain rfl : r2 = true := hx.2 (.inr (.inr (.inr (.inr (.inr (.inl q))))))
      have y4 : decide (4 < z.hops) = true := decide_eq_true (by omega)
      clear hx q0 q hl
      go_wp2_with fail
      go_meet
      exact ⟨rfl, c0⟩
    have y4 : decide (4 < z.hops) = false := decide_eq_false (by omega)
    have z4 := q
    clear q
    by_cases q : 200 < z.n
    · obtain rfl : r2 = true := hx.2 (.inr (.inr (.inr (.inr (.inr (.inr (by show 200 < z.m.d.length; rw [hl]; exact q)))))))
      have y5 : decide ((200 : Int) < (z.n : Int)) = true := decide_eq_true (by omega)
      clear hx q0 q hl
      go_wp2_with fail
      go_meet
      exact ⟨rfl, c0⟩
    have y5 : decide ((200 : Int) < (z.n : Int)) = false := decide_eq_false (by omega)
    have z5 := q
    clear q
    obtain rfl : r2 = false := not_of_iff hx (fun e => by
      rcases e with e | e | e | e | e | e | e
      · exact q0 e
      · exact z0 e
      · exact z1 e
      · exact z2 e
      · exact z3 e
      · exact z4 e
      · rw [hl] at e; exact z5 e)
    clear hx q0 z0 z1 z2 z3 z4 z5 hl
    go_wp2_with fail
    go_meet
    first | exact ⟨rfl, c0⟩ | exact ⟨by rw [q2], c0⟩
  case rest =>
  obtain ⟨rfl, c1⟩ := hcut
  clear c0
  cases r2
  case true =>
    as_aux_lemma =>
    obtain rfl : t = false := not_of_iff HT.out (fun e => e.1 (HR.out.1.1 rfl))
    have hb := c1.below
    clear c1
    go_wp2
    go_ret
    exact ⟨rfl, hb⟩
  case false =>
  go_upto_region 4 with fail
  go_cut [0, 58] (fun s0 s58 wx => s58 = .bool r4 ∧ ChkR w z wx)
  case first =>
    as_aux_lemma =>
    have hlt := c1.at_.lt
    have j1 := c1.at_.cells.2.1
    have j2 := c1.at_.cells.2.2.1
    have H_w := HH.out.1
    have hx := HR.out.2.1
    have he := hide (HE.out.1)
    cases h_w
    · skip
      by_cases i0 : z.who.i = 0
      case neg =>
        obtain rfl : r4 = true := hx.2 (.inr ⟨he.out.symm, fun e => by have e2 := pr_def.1 e; exact i0 e2.1⟩)
        clear hx
        go_wp2_with (go_at_call 72; refine (H_w _).mono ?_; rintro e w8 ⟨rfl, rfl⟩)
        go_meet
        first | exact ⟨rfl, c1⟩ | exact ⟨by simp [i0], c1⟩
      by_cases i1 : z.who.k = 0
      case neg =>
        obtain rfl : r4 = true := hx.2 (.inr ⟨he.out.symm, fun e => by have e2 := pr_def.1 e; exact i1 e2.2⟩)
        clear hx
        go_wp2_with (go_at_call 72; refine (H_w _).mono ?_; rintro e w8 ⟨rfl, rfl⟩)
        go_meet
        first | exact ⟨rfl, c1⟩ | exact ⟨by simp [i0, i1], c1⟩
      obtain rfl : r4 = false := not_of_iff hx (fun e => by rcases e with ⟨e, _⟩ | ⟨_, e⟩; exact absurd (e.symm.trans he.out.symm) (by decide); exact e (pr_def.2 ⟨by assumption, by assumption⟩))
      clear hx
      go_wp2_with (go_at_call 72; refine (H_w _).mono ?_; rintro e w8 ⟨rfl, rfl⟩)
      go_meet
      first | exact ⟨rfl, c1⟩ | exact ⟨by simp [i0, i1], c1⟩
    · have cm := rmay_any z.who
      cases hm : mayP z.who
      · obtain rfl : r4 = true := hx.2 (.inl ⟨he.out.symm, hm⟩)
        rw [hm] at cm
        clear hx
        go_wp2_with (go_at_call 72; refine (H_w _).mono ?_; rintro e w8 ⟨rfl, rfl⟩)
        refine (cm _).mono ?_
        rintro e w7 ⟨rfl, hb⟩
        have c' := c1.later hb
        clear hb cm hlt
        go_wp2_with (go_at_call 72; refine (H_w _).mono ?_; rintro e w8 ⟨rfl, rfl⟩)
        go_meet
        exact ⟨rfl, c'⟩
      · obtain rfl : r4 = false := not_of_iff hx (fun e => by
          rcases e with ⟨_, e⟩ | ⟨e, _⟩
          · exact absurd (hm.symm.trans e) (by decide)
          · exact absurd (e.symm.trans he.out.symm) (by decide))
        rw [hm] at cm
        clear hx
        go_wp2_with (go_at_call 72; refine (H_w _).mono ?_; rintro e w8 ⟨rfl, rfl⟩)
        refine (cm _).mono ?_
        rintro e w7 ⟨rfl, hb⟩
        have c' := c1.later hb
        clear hb cm hlt
        go_wp2_with (go_at_call 72; refine (H_w _).mono ?_; rintro e w8 ⟨rfl, rfl⟩)
        go_meet
        exact ⟨rfl, c'⟩
  case rest =>
  obtain ⟨rfl, c2⟩ := hcut
  clear c1
  cases r4
  case true =>
    as_aux_lemma =>
    obtain rfl : t = false := not_of_iff HT.out (fun e => e.2.1 (HR.out.2.1.1 rfl))
    have hb := c2.below
    clear c2
    go_wp2
    go_ret
    exact ⟨rfl, hb⟩
  case false =>
  go_upto_region 6 with fail
  go_cut [0, 107] (fun s0 s107 wx => s107 = .bool r6 ∧ ChkR w z wx)
  case first =>
    as_aux_lemma =>
    have hlt := c2.at_.lt
    have j3 := c2.at_.cells.2.2.2.1
    have j4 := c2.at_.cells.2.2.2.2.1
    have j5 := c2.at_.cells.2.2.2.2.2.1
    have j6 := c2.at_.cells.2.2.2.2.2.2.1
    have j28 := c2.at_.cells.2.2.2.2.2.2.2.2.2.2.2.2.2.2.2.2.2.2.2.2.2.2.2.2.2.2.2.2
    have H_v := HH.out.2.1
    have H_s := HH.out.2.2.1
    have H_n := HH.out.2.2.2.1
    have H_h := HH.out.2.2.2.2.1
    have H_y := HH.out.2.2.2.2.2.1
    have hx : r6 = (((((!h_v && decide (z.view ≠ 0)) || (!h_s && decide (z.slot ≠ 0))) || (!h_n && decide (z.num ≠ 0))) || (!h_h && decide (z.hops ≠ 0))) || (!h_y && decide (z.n ≠ 0))) := by
      have e := HR.out.2.2.1
      have hl : z.m.d.length = z.n := HSL.out.2
      have hd : z.m.d ≠ [] ↔ z.n ≠ 0 := by rw [← hl]; constructor; exact fun h e => h (List.eq_nil_of_length_eq_zero e); exact fun h e => h (by rw [e]; rfl)
      rw [Bool.eq_iff_iff, e]
      unfold bad6
      rw [hd, show letB z.m.kind 118 = h_v from HE.out.2.1.symm, show letB z.m.kind 115 = h_s from HE.out.2.2.1.symm, show letB z.m.kind 110 = h_n from HE.out.2.2.2.1.symm, show letB z.m.kind 104 = h_h from HE.out.2.2.2.2.1.symm, show letB z.m.kind 121 = h_y from HE.out.2.2.2.2.2.1.symm]
      simp only [Bool.or_eq_true, Bool.and_eq_true, Bool.not_eq_true', decide_eq_true_eq, or_assoc]
      try exact Iff.rfl
    obtain ⟨q_v, hq_v⟩ : ∃ b, b = decide (z.view ≠ 0) := ⟨_, rfl⟩
    have y_v : ((z.view : Int) != 0) = q_v := by rw [hq_v, Bool.eq_iff_iff]; simp only [bne_iff_ne, ne_eq, decide_eq_true_eq]; try omega
    obtain ⟨q_s, hq_s⟩ : ∃ b, b = decide (z.slot ≠ 0) := ⟨_, rfl⟩
    have y_s : ((z.slot : Int) != 0) = q_s := by rw [hq_s, Bool.eq_iff_iff]; simp only [bne_iff_ne, ne_eq, decide_eq_true_eq]; try omega
    obtain ⟨q_n, hq_n⟩ : ∃ b, b = decide (z.num ≠ 0) := ⟨_, rfl⟩
    have y_n : ((z.num : Int) != 0) = q_n := by rw [hq_n, Bool.eq_iff_iff]; simp only [bne_iff_ne, ne_eq, decide_eq_true_eq]; try omega
    obtain ⟨q_h, hq_h⟩ : ∃ b, b = decide (z.hops ≠ 0) := ⟨_, rfl⟩
    have y_h : (z.hops != 0) = q_h := by rw [hq_h, Bool.eq_iff_iff]; simp only [bne_iff_ne, ne_eq, decide_eq_true_eq]; try omega
    obtain ⟨q_y, hq_y⟩ : ∃ b, b = decide (z.n ≠ 0) := ⟨_, rfl⟩
    have y_y : decide ((0 : Int) < (z.n : Int)) = q_y := by rw [hq_y, Bool.eq_iff_iff]; simp only [bne_iff_ne, ne_eq, decide_eq_true_eq]; try omega
    have u_y : decide (0 < z.n) = q_y := by rw [hq_y, Bool.eq_iff_iff]; simp only [ne_eq, decide_eq_true_eq]; omega
    rw [← hq_v, ← hq_s, ← hq_n, ← hq_h, ← hq_y] at hx
    have HX := hide hx
    clear hx hq_v hq_s hq_n hq_h hq_y
    have pt := pats6 (k := z.kind) (ne_iff HR.out.1 rfl ∘ Or.inl)
    rw [← HE.out.2.1, ← HE.out.2.2.1, ← HE.out.2.2.2.1, ← HE.out.2.2.2.2.1, ← HE.out.2.2.2.2.2.1] at pt
    rcases pt with ⟨rfl, rfl, rfl, rfl, rfl⟩ | ⟨rfl, rfl, rfl, rfl, rfl⟩ | ⟨rfl, rfl, rfl, rfl, rfl⟩ | ⟨rfl, rfl, rfl, rfl, rfl⟩ | ⟨rfl, rfl, rfl, rfl, rfl⟩ | ⟨rfl, rfl, rfl, rfl, rfl⟩ | ⟨rfl, rfl, rfl, rfl, rfl⟩ | ⟨rfl, rfl, rfl, rfl, rfl⟩
    · skip
      cases q_s
      case true =>
        have e6 := HX.out
        simp only [Bool.not_true, Bool.not_false, Bool.false_and, Bool.true_and, Bool.or_true, Bool.true_or, Bool.or_false, Bool.false_or] at e6
        subst e6
        as_aux_lemma =>
        go_wp2_with (go_at_call 72; first | ((with_reducible refine (H_v _).mono ?_); rintro e w8 ⟨rfl, rfl⟩) | ((with_reducible refine (H_s _).mono ?_); rintro e w8 ⟨rfl, rfl⟩) | ((with_reducible refine (H_n _).mono ?_); rintro e w8 ⟨rfl, rfl⟩) | ((with_reducible refine (H_h _).mono ?_); rintro e w8 ⟨rfl, rfl⟩) | ((with_reducible refine (H_y _).mono ?_); rintro e w8 ⟨rfl, rfl⟩))
        go_meet
        first | exact ⟨rfl, c2⟩ | exact ⟨by rw [u_y], c2⟩
      have e6 := HX.out
      simp only [Bool.not_true, Bool.not_false, Bool.false_and, Bool.true_and, Bool.or_true, Bool.true_or, Bool.or_false, Bool.false_or] at e6
      subst e6
      as_aux_lemma =>
      go_wp2_with (go_at_call 72; first | ((with_reducible refine (H_v _).mono ?_); rintro e w8 ⟨rfl, rfl⟩) | ((with_reducible refine (H_s _).mono ?_); rintro e w8 ⟨rfl, rfl⟩) | ((with_reducible refine (H_n _).mono ?_); rintro e w8 ⟨rfl, rfl⟩) | ((with_reducible refine (H_h _).mono ?_); rintro e w8 ⟨rfl, rfl⟩) | ((with_reducible refine (H_y _).mono ?_); rintro e w8 ⟨rfl, rfl⟩))
      go_meet
      first | exact ⟨rfl, c2⟩ | exact ⟨by rw [u_y], c2⟩
    · skip
      cases q_v
      case true =>
        have e6 := HX.out
        simp only [Bool.not_true, Bool.not_false, Bool.false_and, Bool.true_and, Bool.or_true, Bool.true_or, Bool.or_false, Bool.false_or] at e6
        subst e6
        as_aux_lemma =>
        go_wp2_with (go_at_call 72; first | ((with_reducible refine (H_v _).mono ?_); rintro e w8 ⟨rfl, rfl⟩) | ((with_reducible refine (H_s _).mono ?_); rintro e w8 ⟨rfl, rfl⟩) | ((with_reducible refine (H_n _).mono ?_); rintro e w8 ⟨rfl, rfl⟩) | ((with_reducible refine (H_h _).mono ?_); rintro e w8 ⟨rfl, rfl⟩) | ((with_reducible refine (H_y _).mono ?_); rintro e w8 ⟨rfl, rfl⟩))
        go_meet
        first | exact ⟨rfl, c2⟩ | exact ⟨by rw [u_y], c2⟩
      cases q_n
      case true =>
        have e6 := HX.out
        simp only [Bool.not_true, Bool.not_false, Bool.false_and, Bool.true_and, Bool.or_true, Bool.true_or, Bool.or_false, Bool.false_or] at e6
        subst e6
        as_aux_lemma =>
        go_wp2_with (go_at_call 72; first | ((with_reducible refine (H_v _).mono ?_); rintro e w8 ⟨rfl, rfl⟩) | ((with_reducible refine (H_s _).mono ?_); rintro e w8 ⟨rfl, rfl⟩) | ((with_reducible refine (H_n _).mono ?_); rintro e w8 ⟨rfl, rfl⟩) | ((with_reducible refine (H_h _).mono ?_); rintro e w8 ⟨rfl, rfl⟩) | ((with_reducible refine (H_y _).mono ?_); rintro e w8 ⟨rfl, rfl⟩))
        go_meet
        first | exact ⟨rfl, c2⟩ | exact ⟨by rw [u_y], c2⟩
      have e6 := HX.out
      simp only [Bool.not_true, Bool.not_false, Bool.false_and, Bool.true_and, Bool.or_true, Bool.true_or, Bool.or_false, Bool.false_or] at e6
      subst e6
      as_aux_lemma =>
      go_wp2_with (go_at_call 72; first | ((with_reducible refine (H_v _).mono ?_); rintro e w8 ⟨rfl, rfl⟩) | ((with_reducible refine (H_s _).mono ?_); rintro e w8 ⟨rfl, rfl⟩) | ((with_reducible refine (H_n _).mono ?_); rintro e w8 ⟨rfl, rfl⟩) | ((with_reducible refine (H_h _).mono ?_); rintro e w8 ⟨rfl, rfl⟩) | ((with_reducible refine (H_y _).mono ?_); rintro e w8 ⟨rfl, rfl⟩))
      go_meet
      first | exact ⟨rfl, c2⟩ | exact ⟨by rw [u_y], c2⟩
    · skip
      cases q_v
      case true =>
        have e6 := HX.out
        simp only [Bool.not_true, Bool.not_false, Bool.false_and, Bool.true_and, Bool.or_true, Bool.true_or, Bool.or_false, Bool.false_or] at e6
        subst e6
        as_aux_lemma =>
        go_wp2_with (go_at_call 72; first | ((with_reducible refine (H_v _).mono ?_); rintro e w8 ⟨rfl, rfl⟩) | ((with_reducible refine (H_s _).mono ?_); rintro e w8 ⟨rfl, rfl⟩) | ((with_reducible refine (H_n _).mono ?_); rintro e w8 ⟨rfl, rfl⟩) | ((with_reducible refine (H_h _).mono ?_); rintro e w8 ⟨rfl, rfl⟩) | ((with_reducible refine (H_y _).mono ?_); rintro e w8 ⟨rfl, rfl⟩))
        go_meet
        first | exact ⟨rfl, c2⟩ | exact ⟨by rw [u_y], c2⟩
      cases q_n
      case true =>
        have e6 := HX.out
        simp only [Bool.not_true, Bool.not_false, Bool.false_and, Bool.true_and, Bool.or_true, Bool.true_or, Bool.or_false, Bool.false_or] at e6
        subst e6
        as_aux_lemma =>
        go_wp2_with (go_at_call 72; first | ((with_reducible refine (H_v _).mono ?_); rintro e w8 ⟨rfl, rfl⟩) | ((with_reducible refine (H_s _).mono ?_); rintro e w8 ⟨rfl, rfl⟩) | ((with_reducible refine (H_n _).mono ?_); rintro e w8 ⟨rfl, rfl⟩) | ((with_reducible refine (H_h _).mono ?_); rintro e w8 ⟨rfl, rfl⟩) | ((with_reducible refine (H_y _).mono ?_); rintro e w8 ⟨rfl, rfl⟩))
        go_meet
        first | exact ⟨rfl, c2⟩ | exact ⟨by rw [u_y], c2⟩
      cases q_h
      case true =>
        have e6 := HX.out
        simp only [Bool.not_true, Bool.not_false, Bool.false_and, Bool.true_and, Bool.or_true, Bool.true_or, Bool.or_false, Bool.false_or] at e6
        subst e6
        as_aux_lemma =>
        go_wp2_with (go_at_call 72; first | ((with_reducible refine (H_v _).mono ?_); rintro e w8 ⟨rfl, rfl⟩) | ((with_reducible refine (H_s _).mono ?_); rintro e w8 ⟨rfl, rfl⟩) | ((with_reducible refine (H_n _).mono ?_); rintro e w8 ⟨rfl, rfl⟩) | ((with_reducible refine (H_h _).mono ?_); rintro e w8 ⟨rfl, rfl⟩) | ((with_reducible refine (H_y _).mono ?_); rintro e w8 ⟨rfl, rfl⟩))
        go_meet
        first | exact ⟨rfl, c2⟩ | exact ⟨by rw [u_y], c2⟩
      have e6 := HX.out
      simp only [Bool.not_true, Bool.not_false, Bool.false_and, Bool.true_and, Bool.or_true, Bool.true_or, Bool.or_false, Bool.false_or] at e6
      subst e6
      as_aux_lemma =>
      go_wp2_with (go_at_call 72; first | ((with_reducible refine (H_v _).mono ?_); rintro e w8 ⟨rfl, rfl⟩) | ((with_reducible refine (H_s _).mono ?_); rintro e w8 ⟨rfl, rfl⟩) | ((with_reducible refine (H_n _).mono ?_); rintro e w8 ⟨rfl, rfl⟩) | ((with_reducible refine (H_h _).mono ?_); rintro e w8 ⟨rfl, rfl⟩) | ((with_reducible refine (H_y _).mono ?_); rintro e w8 ⟨rfl, rfl⟩))
      go_meet
      first | exact ⟨rfl, c2⟩ | exact ⟨by rw [u_y], c2⟩
    · skip
      cases q_s
      case true =>
        have e6 := HX.out
        simp only [Bool.not_true, Bool.not_false, Bool.false_and, Bool.true_and, Bool.or_true, Bool.true_or, Bool.or_false, Bool.false_or] at e6
        subst e6
        as_aux_lemma =>
        go_wp2_with (go_at_call 72; first | ((with_reducible refine (H_v _).mono ?_); rintro e w8 ⟨rfl, rfl⟩) | ((with_reducible refine (H_s _).mono ?_); rintro e w8 ⟨rfl, rfl⟩) | ((with_reducible refine (H_n _).mono ?_); rintro e w8 ⟨rfl, rfl⟩) | ((with_reducible refine (H_h _).mono ?_); rintro e w8 ⟨rfl, rfl⟩) | ((with_reducible refine (H_y _).mono ?_); rintro e w8 ⟨rfl, rfl⟩))
        go_meet
        first | exact ⟨rfl, c2⟩ | exact ⟨by rw [u_y], c2⟩
      cases q_n
      case true =>
        have e6 := HX.out
        simp only [Bool.not_true, Bool.not_false, Bool.false_and, Bool.true_and, Bool.or_true, Bool.true_or, Bool.or_false, Bool.false_or] at e6
        subst e6
        as_aux_lemma =>
        go_wp2_with (go_at_call 72; first | ((with_reducible refine (H_v _).mono ?_); rintro e w8 ⟨rfl, rfl⟩) | ((with_reducible refine (H_s _).mono ?_); rintro e w8 ⟨rfl, rfl⟩) | ((with_reducible refine (H_n _).mono ?_); rintro e w8 ⟨rfl, rfl⟩) | ((with_reducible refine (H_h _).mono ?_); rintro e w8 ⟨rfl, rfl⟩) | ((with_reducible refine (H_y _).mono ?_); rintro e w8 ⟨rfl, rfl⟩))
        go_meet
        first | exact ⟨rfl, c2⟩ | exact ⟨by rw [u_y], c2⟩
      have e6 := HX.out
      simp only [Bool.not_true, Bool.not_false, Bool.false_and, Bool.true_and, Bool.or_true, Bool.true_or, Bool.or_false, Bool.false_or] at e6
      subst e6
      as_aux_lemma =>
      go_wp2_with (go_at_call 72; first | ((with_reducible refine (H_v _).mono ?_); rintro e w8 ⟨rfl, rfl⟩) | ((with_reducible refine (H_s _).mono ?_); rintro e w8 ⟨rfl, rfl⟩) | ((with_reducible refine (H_n _).mono ?_); rintro e w8 ⟨rfl, rfl⟩) | ((with_reducible refine (H_h _).mono ?_); rintro e w8 ⟨rfl, rfl⟩) | ((with_reducible refine (H_y _).mono ?_); rintro e w8 ⟨rfl, rfl⟩))
      go_meet
      first | exact ⟨rfl, c2⟩ | exact ⟨by rw [u_y], c2⟩
    · skip
      cases q_s
      case true =>
        have e6 := HX.out
        simp only [Bool.not_true, Bool.not_false, Bool.false_and, Bool.true_and, Bool.or_true, Bool.true_or, Bool.or_false, Bool.false_or] at e6
        subst e6
        as_aux_lemma =>
        go_wp2_with (go_at_call 72; first | ((with_reducible refine (H_v _).mono ?_); rintro e w8 ⟨rfl, rfl⟩) | ((with_reducible refine (H_s _).mono ?_); rintro e w8 ⟨rfl, rfl⟩) | ((with_reducible refine (H_n _).mono ?_); rintro e w8 ⟨rfl, rfl⟩) | ((with_reducible refine (H_h _).mono ?_); rintro e w8 ⟨rfl, rfl⟩) | ((with_reducible refine (H_y _).mono ?_); rintro e w8 ⟨rfl, rfl⟩))
        go_meet
        first | exact ⟨rfl, c2⟩ | exact ⟨by rw [u_y], c2⟩
      have e6 := HX.out
      simp only [Bool.not_true, Bool.not_false, Bool.false_and, Bool.true_and, Bool.or_true, Bool.true_or, Bool.or_false, Bool.false_or] at e6
      subst e6
      as_aux_lemma =>
      go_wp2_with (go_at_call 72; first | ((with_reducible refine (H_v _).mono ?_); rintro e w8 ⟨rfl, rfl⟩) | ((with_reducible refine (H_s _).mono ?_); rintro e w8 ⟨rfl, rfl⟩) | ((with_reducible refine (H_n _).mono ?_); rintro e w8 ⟨rfl, rfl⟩) | ((with_reducible refine (H_h _).mono ?_); rintro e w8 ⟨rfl, rfl⟩) | ((with_reducible refine (H_y _).mono ?_); rintro e w8 ⟨rfl, rfl⟩))
      go_meet
      first | exact ⟨rfl, c2⟩ | exact ⟨by rw [u_y], c2⟩
    · skip
      cases q_v
      case true =>
        have e6 := HX.out
        simp only [Bool.not_true, Bool.not_false, Bool.false_and, Bool.true_and, Bool.or_true, Bool.true_or, Bool.or_false, Bool.false_or] at e6
        subst e6
        as_aux_lemma =>
        go_wp2_with (go_at_call 72; first | ((with_reducible refine (H_v _).mono ?_); rintro e w8 ⟨rfl, rfl⟩) | ((with_reducible refine (H_s _).mono ?_); rintro e w8 ⟨rfl, rfl⟩) | ((with_reducible refine (H_n _).mono ?_); rintro e w8 ⟨rfl, rfl⟩) | ((with_reducible refine (H_h _).mono ?_); rintro e w8 ⟨rfl, rfl⟩) | ((with_reducible refine (H_y _).mono ?_); rintro e w8 ⟨rfl, rfl⟩))
        go_meet
        first | exact ⟨rfl, c2⟩ | exact ⟨by rw [u_y], c2⟩
      cases q_s
      case true =>
        have e6 := HX.out
        simp only [Bool.not_true, Bool.not_false, Bool.false_and, Bool.true_and, Bool.or_true, Bool.true_or, Bool.or_false, Bool.false_or] at e6
        subst e6
        as_aux_lemma =>
        go_wp2_with (go_at_call 72; first | ((with_reducible refine (H_v _).mono ?_); rintro e w8 ⟨rfl, rfl⟩) | ((with_reducible refine (H_s _).mono ?_); rintro e w8 ⟨rfl, rfl⟩) | ((with_reducible refine (H_n _).mono ?_); rintro e w8 ⟨rfl, rfl⟩) | ((with_reducible refine (H_h _).mono ?_); rintro e w8 ⟨rfl, rfl⟩) | ((with_reducible refine (H_y _).mono ?_); rintro e w8 ⟨rfl, rfl⟩))
        go_meet
        first | exact ⟨rfl, c2⟩ | exact ⟨by rw [u_y], c2⟩
      cases q_n
      case true =>
        have e6 := HX.out
        simp only [Bool.not_true, Bool.not_false, Bool.false_and, Bool.true_and, Bool.or_true, Bool.true_or, Bool.or_false, Bool.false_or] at e6
        subst e6
        as_aux_lemma =>
        go_wp2_with (go_at_call 72; first | ((with_reducible refine (H_v _).mono ?_); rintro e w8 ⟨rfl, rfl⟩) | ((with_reducible refine (H_s _).mono ?_); rintro e w8 ⟨rfl, rfl⟩) | ((with_reducible refine (H_n _).mono ?_); rintro e w8 ⟨rfl, rfl⟩) | ((with_reducible refine (H_h _).mono ?_); rintro e w8 ⟨rfl, rfl⟩) | ((with_reducible refine (H_y _).mono ?_); rintro e w8 ⟨rfl, rfl⟩))
        go_meet
        first | exact ⟨rfl, c2⟩ | exact ⟨by rw [u_y], c2⟩
      have e6 := HX.out
      simp only [Bool.not_true, Bool.not_false, Bool.false_and, Bool.true_and, Bool.or_true, Bool.true_or, Bool.or_false, Bool.false_or] at e6
      subst e6
      as_aux_lemma =>
      go_wp2_with (go_at_call 72; first | ((with_reducible refine (H_v _).mono ?_); rintro e w8 ⟨rfl, rfl⟩) | ((with_reducible refine (H_s _).mono ?_); rintro e w8 ⟨rfl, rfl⟩) | ((with_reducible refine (H_n _).mono ?_); rintro e w8 ⟨rfl, rfl⟩) | ((with_reducible refine (H_h _).mono ?_); rintro e w8 ⟨rfl, rfl⟩) | ((with_reducible refine (H_y _).mono ?_); rintro e w8 ⟨rfl, rfl⟩))
      go_meet
      first | exact ⟨rfl, c2⟩ | exact ⟨by rw [u_y], c2⟩
    · skip
      cases q_v
      case true =>
        have e6 := HX.out
        simp only [Bool.not_true, Bool.not_false, Bool.false_and, Bool.true_and, Bool.or_true, Bool.true_or, Bool.or_false, Bool.false_or] at e6
        subst e6
        as_aux_lemma =>
        go_wp2_with (go_at_call 72; first | ((with_reducible refine (H_v _).mono ?_); rintro e w8 ⟨rfl, rfl⟩) | ((with_reducible refine (H_s _).mono ?_); rintro e w8 ⟨rfl, rfl⟩) | ((with_reducible refine (H_n _).mono ?_); rintro e w8 ⟨rfl, rfl⟩) | ((with_reducible refine (H_h _).mono ?_); rintro e w8 ⟨rfl, rfl⟩) | ((with_reducible refine (H_y _).mono ?_); rintro e w8 ⟨rfl, rfl⟩))
        go_meet
        first | exact ⟨rfl, c2⟩ | exact ⟨by rw [u_y], c2⟩
      cases q_n
      case true =>
        have e6 := HX.out
        simp only [Bool.not_true, Bool.not_false, Bool.false_and, Bool.true_and, Bool.or_true, Bool.true_or, Bool.or_false, Bool.false_or] at e6
        subst e6
        as_aux_lemma =>
        go_wp2_with (go_at_call 72; first | ((with_reducible refine (H_v _).mono ?_); rintro e w8 ⟨rfl, rfl⟩) | ((with_reducible refine (H_s _).mono ?_); rintro e w8 ⟨rfl, rfl⟩) | ((with_reducible refine (H_n _).mono ?_); rintro e w8 ⟨rfl, rfl⟩) | ((with_reducible refine (H_h _).mono ?_); rintro e w8 ⟨rfl, rfl⟩) | ((with_reducible refine (H_y _).mono ?_); rintro e w8 ⟨rfl, rfl⟩))
        go_meet
        first | exact ⟨rfl, c2⟩ | exact ⟨by rw [u_y], c2⟩
      cases q_h
      case true =>
        have e6 := HX.out
        simp only [Bool.not_true, Bool.not_false, Bool.false_and, Bool.true_and, Bool.or_true, Bool.true_or, Bool.or_false, Bool.false_or] at e6
        subst e6
        as_aux_lemma =>
        go_wp2_with (go_at_call 72; first | ((with_reducible refine (H_v _).mono ?_); rintro e w8 ⟨rfl, rfl⟩) | ((with_reducible refine (H_s _).mono ?_); rintro e w8 ⟨rfl, rfl⟩) | ((with_reducible refine (H_n _).mono ?_); rintro e w8 ⟨rfl, rfl⟩) | ((with_reducible refine (H_h _).mono ?_); rintro e w8 ⟨rfl, rfl⟩) | ((with_reducible refine (H_y _).mono ?_); rintro e w8 ⟨rfl, rfl⟩))
        go_meet
        first | exact ⟨rfl, c2⟩ | exact ⟨by rw [u_y], c2⟩
      have e6 := HX.out
      simp only [Bool.not_true, Bool.not_false, Bool.false_and, Bool.true_and, Bool.or_true, Bool.true_or, Bool.or_false, Bool.false_or] at e6
      subst e6
      as_aux_lemma =>
      go_wp2_with (go_at_call 72; first | ((with_reducible refine (H_v _).mono ?_); rintro e w8 ⟨rfl, rfl⟩) | ((with_reducible refine (H_s _).mono ?_); rintro e w8 ⟨rfl, rfl⟩) | ((with_reducible refine (H_n _).mono ?_); rintro e w8 ⟨rfl, rfl⟩) | ((with_reducible refine (H_h _).mono ?_); rintro e w8 ⟨rfl, rfl⟩) | ((with_reducible refine (H_y _).mono ?_); rintro e w8 ⟨rfl, rfl⟩))
      go_meet
      first | exact ⟨rfl, c2⟩ | exact ⟨by rw [u_y], c2⟩
    · skip
      cases q_s
      case true =>
        have e6 := HX.out
        simp only [Bool.not_true, Bool.not_false, Bool.false_and, Bool.true_and, Bool.or_true, Bool.true_or, Bool.or_false, Bool.false_or] at e6
        subst e6
        as_aux_lemma =>
        go_wp2_with (go_at_call 72; first | ((with_reducible refine (H_v _).mono ?_); rintro e w8 ⟨rfl, rfl⟩) | ((with_reducible refine (H_s _).mono ?_); rintro e w8 ⟨rfl, rfl⟩) | ((with_reducible refine (H_n _).mono ?_); rintro e w8 ⟨rfl, rfl⟩) | ((with_reducible refine (H_h _).mono ?_); rintro e w8 ⟨rfl, rfl⟩) | ((with_reducible refine (H_y _).mono ?_); rintro e w8 ⟨rfl, rfl⟩))
        go_meet
        first | exact ⟨rfl, c2⟩ | exact ⟨by rw [u_y], c2⟩
      cases q_n
      case true =>
        have e6 := HX.out
        simp only [Bool.not_true, Bool.not_false, Bool.false_and, Bool.true_and, Bool.or_true, Bool.true_or, Bool.or_false, Bool.false_or] at e6
        subst e6
        as_aux_lemma =>
        go_wp2_with (go_at_call 72; first | ((with_reducible refine (H_v _).mono ?_); rintro e w8 ⟨rfl, rfl⟩) | ((with_reducible refine (H_s _).mono ?_); rintro e w8 ⟨rfl, rfl⟩) | ((with_reducible refine (H_n _).mono ?_); rintro e w8 ⟨rfl, rfl⟩) | ((with_reducible refine (H_h _).mono ?_); rintro e w8 ⟨rfl, rfl⟩) | ((with_reducible refine (H_y _).mono ?_); rintro e w8 ⟨rfl, rfl⟩))
        go_meet
        first | exact ⟨rfl, c2⟩ | exact ⟨by rw [u_y], c2⟩
      cases q_h
      case true =>
        have e6 := HX.out
        simp only [Bool.not_true, Bool.not_false, Bool.false_and, Bool.true_and, Bool.or_true, Bool.true_or, Bool.or_false, Bool.false_or] at e6
        subst e6
        as_aux_lemma =>
        go_wp2_with (go_at_call 72; first | ((with_reducible refine (H_v _).mono ?_); rintro e w8 ⟨rfl, rfl⟩) | ((with_reducible refine (H_s _).mono ?_); rintro e w8 ⟨rfl, rfl⟩) | ((with_reducible refine (H_n _).mono ?_); rintro e w8 ⟨rfl, rfl⟩) | ((with_reducible refine (H_h _).mono ?_); rintro e w8 ⟨rfl, rfl⟩) | ((with_reducible refine (H_y _).mono ?_); rintro e w8 ⟨rfl, rfl⟩))
        go_meet
        first | exact ⟨rfl, c2⟩ | exact ⟨by rw [u_y], c2⟩
      have e6 := HX.out
      simp only [Bool.not_true, Bool.not_false, Bool.false_and, Bool.true_and, Bool.or_true, Bool.true_or, Bool.or_false, Bool.false_or] at e6
      subst e6
      as_aux_lemma =>
      go_wp2_with (go_at_call 72; first | ((with_reducible refine (H_v _).mono ?_); rintro e w8 ⟨rfl, rfl⟩) | ((with_reducible refine (H_s _).mono ?_); rintro e w8 ⟨rfl, rfl⟩) | ((with_reducible refine (H_n _).mono ?_); rintro e w8 ⟨rfl, rfl⟩) | ((with_reducible refine (H_h _).mono ?_); rintro e w8 ⟨rfl, rfl⟩) | ((with_reducible refine (H_y _).mono ?_); rintro e w8 ⟨rfl, rfl⟩))
      go_meet
      first | exact ⟨rfl, c2⟩ | exact ⟨by rw [u_y], c2⟩
  case rest =>
  obtain ⟨rfl, c3⟩ := hcut
  clear c2
  cases r6
  case true =>
    as_aux_lemma =>
    obtain rfl : t = false := not_of_iff HT.out (fun e => e.2.2.1 (HR.out.2.2.1.1 rfl))
    have hb := c3.below
    clear c3
    go_wp2
    go_ret
    exact ⟨rfl, hb⟩
  case false =>
  go_upto_region 8 with fail
  go_cut [0, 127] (fun s0 s127 wx => s127 = .bool r8 ∧ ChkR w z wx)
  case first =>
    as_aux_lemma =>
    have hlt := c3.at_.lt
    have j7 := c3.at_.cells.2.2.2.2.2.2.2.1
    have j8 := c3.at_.cells.2.2.2.2.2.2.2.2.1
    have j9 := c3.at_.cells.2.2.2.2.2.2.2.2.2.1
    have H_b := HH.out.2.2.2.2.2.2.1
    have hx := HR.out.2.2.2.1
    have he := hide (HE.out.2.2.2.2.2.2.1)
    cases h_b
    · skip
      by_cases i0 : z.b.r = 0
      case neg =>
        obtain rfl : r8 = true := hx.2 (.inr ⟨he.out.symm, fun e => by have e2 := bl_def.1 e; exact i0 e2.1⟩)
        clear hx
        go_wp2_with (go_at_call 72; refine (H_b _).mono ?_; rintro e w8 ⟨rfl, rfl⟩)
        go_meet
        first | exact ⟨rfl, c3⟩ | exact ⟨by simp [i0], c3⟩
      by_cases i1 : z.b.p.i = 0
      case neg =>
        obtain rfl : r8 = true := hx.2 (.inr ⟨he.out.symm, fun e => by have e2 := bl_def.1 e; exact i1 e2.2.1⟩)
        clear hx
        go_wp2_with (go_at_call 72; refine (H_b _).mono ?_; rintro e w8 ⟨rfl, rfl⟩)
        go_meet
        first | exact ⟨rfl, c3⟩ | exact ⟨by simp [i0, i1], c3⟩
      by_cases i2 : z.b.p.k = 0
      case neg =>
        obtain rfl : r8 = true := hx.2 (.inr ⟨he.out.symm, fun e => by have e2 := bl_def.1 e; exact i2 e2.2.2⟩)
        clear hx
        go_wp2_with (go_at_call 72; refine (H_b _).mono ?_; rintro e w8 ⟨rfl, rfl⟩)
        go_meet
        first | exact ⟨rfl, c3⟩ | exact ⟨by simp [i0, i1, i2], c3⟩
      obtain rfl : r8 = false := not_of_iff hx (fun e => by rcases e with ⟨e, _⟩ | ⟨_, e⟩; exact absurd (e.symm.trans he.out.symm) (by decide); exact e (bl_def.2 ⟨by assumption, by assumption, by assumption⟩))
      clear hx
      go_wp2_with (go_at_call 72; refine (H_b _).mono ?_; rintro e w8 ⟨rfl, rfl⟩)
      go_meet
      first | exact ⟨rfl, c3⟩ | exact ⟨by simp [i0, i1, i2], c3⟩
    · have cm := rmay_any z.b.p
      cases hm : mayP z.b.p
      · obtain rfl : r8 = true := hx.2 (.inl ⟨he.out.symm, hm⟩)
        rw [hm] at cm
        clear hx
        go_wp2_with (go_at_call 72; refine (H_b _).mono ?_; rintro e w8 ⟨rfl, rfl⟩)
        refine (cm _).mono ?_
        rintro e w7 ⟨rfl, hb⟩
        have c' := c3.later hb
        clear hb cm hlt
        go_wp2_with (go_at_call 72; refine (H_b _).mono ?_; rintro e w8 ⟨rfl, rfl⟩)
        go_meet
        exact ⟨rfl, c'⟩
      · obtain rfl : r8 = false := not_of_iff hx (fun e => by
          rcases e with ⟨_, e⟩ | ⟨e, _⟩
          · exact absurd (hm.symm.trans e) (by decide)
          · exact absurd (e.symm.trans he.out.symm) (by decide))
        rw [hm] at cm
        clear hx
        go_wp2_with (go_at_call 72; refine (H_b _).mono ?_; rintro e w8 ⟨rfl, rfl⟩)
        refine (cm _).mono ?_
        rintro e w7 ⟨rfl, hb⟩
        have c' := c3.later hb
        clear hb cm hlt
        go_wp2_with (go_at_call 72; refine (H_b _).mono ?_; rintro e w8 ⟨rfl, rfl⟩)
        go_meet
        exact ⟨rfl, c'⟩
  case rest =>
  obtain ⟨rfl, c4⟩ := hcut
  clear c3
  cases r8
  case true =>
    as_aux_lemma =>
    obtain rfl : t = false := not_of_iff HT.out (fun e => e.2.2.2.1 (HR.out.2.2.2.1.1 rfl))
    have hb := c4.below
    clear c4
    go_wp2
    go_ret
    exact ⟨rfl, hb⟩
  case false =>
  go_upto_region 10 with fail
  go_cut [0, 152] (fun s0 s152 wx => s152 = .bool r10 ∧ ChkR w z wx)
  case first =>
    as_aux_lemma =>
    have hlt := c4.at_.lt
    have j10 := c4.at_.cells.2.2.2.2.2.2.2.2.2.2.1
    have j11 := c4.at_.cells.2.2.2.2.2.2.2.2.2.2.2.1
    have j12 := c4.at_.cells.2.2.2.2.2.2.2.2.2.2.2.2.1
    have j13 := c4.at_.cells.2.2.2.2.2.2.2.2.2.2.2.2.2.1
    have H_p := HH.out.2.2.2.2.2.2.2.1
    have hx := HR.out.2.2.2.2
    have he := hide (HE.out.2.2.2.2.2.2.2.1)
    have hf := hide (show z.m.has = f from HF.out.symm)
    rw [← HF.out] at j13
    cases f
    · skip
      by_cases i0 : z.a.r = 0
      case neg =>
        obtain rfl : r10 = true := hx.2 (.inr ⟨hf.out, fun e => by have e2 := bl_def.1 e; exact i0 e2.1⟩)
        clear hx
        go_wp2_with fail
        go_meet
        first | exact ⟨rfl, c4⟩ | exact ⟨by simp [i0], c4⟩
      by_cases i1 : z.a.p.i = 0
      case neg =>
        obtain rfl : r10 = true := hx.2 (.inr ⟨hf.out, fun e => by have e2 := bl_def.1 e; exact i1 e2.2.1⟩)
        clear hx
        go_wp2_with fail
        go_meet
        first | exact ⟨rfl, c4⟩ | exact ⟨by simp [i0, i1], c4⟩
      by_cases i2 : z.a.p.k = 0
      case neg =>
        obtain rfl : r10 = true := hx.2 (.inr ⟨hf.out, fun e => by have e2 := bl_def.1 e; exact i2 e2.2.2⟩)
        clear hx
        go_wp2_with fail
        go_meet
        first | exact ⟨rfl, c4⟩ | exact ⟨by simp [i0, i1, i2], c4⟩
      obtain rfl : r10 = false := not_of_iff hx (fun e => by rcases e with ⟨e, _⟩ | ⟨_, e⟩; exact absurd (e.symm.trans hf.out) (by decide); exact e (bl_def.2 ⟨by assumption, by assumption, by assumption⟩))
      clear hx
      go_wp2_with fail
      go_meet
      first | exact ⟨rfl, c4⟩ | exact ⟨by simp [i0, i1, i2], c4⟩
    · cases h_p
      · obtain rfl : r10 = true := hx.2 (.inl ⟨hf.out, .inl he.out.symm⟩)
        clear hx
        go_wp2_with (go_at_call 72; refine (H_p _).mono ?_; rintro e w8 ⟨rfl, rfl⟩)
        go_meet
        exact ⟨rfl, c4⟩
      · have cm := rmay_any z.a.p
        cases hm : mayP z.a.p
        · obtain rfl : r10 = true := hx.2 (.inl ⟨hf.out, .inr hm⟩)
          rw [hm] at cm
          clear hx
          go_wp2_with (go_at_call 72; refine (H_p _).mono ?_; rintro e w8 ⟨rfl, rfl⟩)
          refine (cm _).mono ?_
          rintro e w7 ⟨rfl, hb⟩
          have c' := c4.later hb
          clear hb cm hlt
          go_wp2_with fail
          go_meet
          exact ⟨rfl, c'⟩
        · obtain rfl : r10 = false := not_of_iff hx (fun e => by
            rcases e with ⟨_, e | e⟩ | ⟨e, _⟩
            · exact absurd (e.symm.trans he.out.symm) (by decide)
            · exact absurd (hm.symm.trans e) (by decide)
            · exact absurd (e.symm.trans hf.out) (by decide))
          rw [hm] at cm
          clear hx
          go_wp2_with (go_at_call 72; refine (H_p _).mono ?_; rintro e w8 ⟨rfl, rfl⟩)
          refine (cm _).mono ?_
          rintro e w7 ⟨rfl, hb⟩
          have c' := c4.later hb
          have j13' := c'.at_.cells.2.2.2.2.2.2.2.2.2.2.2.2.2.1
          rw [show z.has = true from hf.out] at j13'
          have hlt' := c'.at_.lt
          clear hb cm hlt
          go_wp2_with fail
          go_meet
          exact ⟨rfl, c'⟩
  case rest =>
  obtain ⟨rfl, c5⟩ := hcut
  clear c4
  cases r10
  case true =>
    as_aux_lemma =>
    obtain rfl : t = false := not_of_iff HT.out (fun e => e.2.2.2.2.1 (HR.out.2.2.2.2.1 rfl))
    have hb := c5.below
    clear c5
    go_wp2
    go_ret
    exact ⟨rfl, hb⟩
  case false =>
  obtain ⟨rC, hrC⟩ : ∃ b, b = (f || h_c) := ⟨_, rfl⟩
  have HRC := hide hrC
  clear hrC
  go_upto_region 12 with fail
  go_cut [0, 158] (fun s0 s158 wx => s158 = .bool rC ∧ ChkR w z wx)
  case first =>
    as_aux_lemma =>
    have hlt := c5.at_.lt
    have j13 := c5.at_.cells.2.2.2.2.2.2.2.2.2.2.2.2.2.1
    have H_c := HH.out.2.2.2.2.2.2.2.2.1
    rw [← HF.out] at j13
    have hx := HRC.out
    cases f
    · obtain rfl : rC = h_c := hx
      go_wp2_with (go_at_call 72; refine (H_c _).mono ?_; rintro e w8 ⟨rfl, rfl⟩)
      go_meet
      exact ⟨rfl, c5⟩
    · obtain rfl : rC = true := hx
      go_wp2_with fail
      go_meet
      exact ⟨rfl, c5⟩
  case rest =>
  obtain ⟨rfl, c6⟩ := hcut
  clear c5
  have hRC : (z.m.has || letB z.m.kind 99) = rC := by rw [HRC.out, show z.m.has = f from HF.out.symm, show letB z.m.kind 99 = h_c from HE.out.2.2.2.2.2.2.2.2.1.symm]
  have HRC2 := hide hRC
  clear hRC HRC
  cases rC
  case true =>
    have cc := HCALLS.out.1 _ c6.below
    have hlt := c6.at_.lt
    have j14 := c6.at_.cells.2.2.2.2.2.2.2.2.2.2.2.2.2.2.1
    have j15 := c6.at_.cells.2.2.2.2.2.2.2.2.2.2.2.2.2.2.2.1
    have j16 := c6.at_.cells.2.2.2.2.2.2.2.2.2.2.2.2.2.2.2.2.1
    have j17 := c6.at_.cells.2.2.2.2.2.2.2.2.2.2.2.2.2.2.2.2.2.1
    have j18 := c6.at_.cells.2.2.2.2.2.2.2.2.2.2.2.2.2.2.2.2.2.2.1
    have j19 := c6.at_.cells.2.2.2.2.2.2.2.2.2.2.2.2.2.2.2.2.2.2.2.1
    have j20 := c6.at_.cells.2.2.2.2.2.2.2.2.2.2.2.2.2.2.2.2.2.2.2.2.1
    have j21 := c6.at_.cells.2.2.2.2.2.2.2.2.2.2.2.2.2.2.2.2.2.2.2.2.2.1
    have j22 := c6.at_.cells.2.2.2.2.2.2.2.2.2.2.2.2.2.2.2.2.2.2.2.2.2.2.1
    have j23 := c6.at_.cells.2.2.2.2.2.2.2.2.2.2.2.2.2.2.2.2.2.2.2.2.2.2.2.1
    by_cases hk : kC = 0
    case neg =>
      as_aux_lemma =>
      have x1 : (kC != 0) = true := by rw [bne_iff_ne]; exact hk
      obtain rfl : t = false := not_of_iff HT.out (fun e => e.2.2.2.2.2.1 (by unfold badC; rw [if_pos HRC2.out]; exact fun e2 => hk (HC.out.1.2 e2)))
      clear hk
      go_wp2_with fail
      refine cc.mono ?_
      rintro e w5 ⟨rfl, hb⟩
      have hb5 := c6.below.trans (hb.mono c6.below.size)
      clear cc hb hlt c6
      go_wp2
      go_ret
      exact ⟨rfl, hb5⟩
    have x1 : (kC != 0) = false := by rw [hk]; rfl
    have HBC := hide (show ¬ badC z.m by unfold badC; rw [if_pos HRC2.out]; exact fun e2 => e2 (HC.out.1.1 hk))
    clear hk
    go_wp2_with fail
    refine cc.mono ?_
    rintro e w5 ⟨rfl, hb⟩
    have c' := c6.later hb
    clear cc hb hlt c6
    have H_V := HH.out.2.2.2.2.2.2.2.2.2
    go_upto_if 168 with (refine (H_V _).mono ?_; rintro e w8 ⟨rfl, rfl⟩)
    have hv : (letB z.m.kind 86) = h_V := HE.out.2.2.2.2.2.2.2.2.2.symm
    have hlt := c'.at_.lt
    have j24 := c'.at_.cells.2.2.2.2.2.2.2.2.2.2.2.2.2.2.2.2.2.2.2.2.2.2.2.2.1
    have j25 := c'.at_.cells.2.2.2.2.2.2.2.2.2.2.2.2.2.2.2.2.2.2.2.2.2.2.2.2.2.1
    have j26 := c'.at_.cells.2.2.2.2.2.2.2.2.2.2.2.2.2.2.2.2.2.2.2.2.2.2.2.2.2.2.1
    have j27 := c'.at_.cells.2.2.2.2.2.2.2.2.2.2.2.2.2.2.2.2.2.2.2.2.2.2.2.2.2.2.2.1
    have cv := HCALLS.out.2.2.1 _ c'.below
    have cz := HCALLS.out.2.2.2 _ c'.below
    have hb4 := c'.below
    have HV := hide hv
    clear hv
    cases h_V
    · as_aux_lemma =>
      have hf : t = nV := by
        rw [Bool.eq_iff_iff, HT.out, HC.out.2.2.2]
        constructor
        · intro e
          have e2 := e.2.2.2.2.2.2
          unfold badV at e2
          rw [if_neg (by rw [HV.out]; simp)] at e2
          exact Classical.not_not.1 e2
        · intro e
          refine ⟨ne_iff HR.out.1 rfl, ne_iff HR.out.2.1 rfl, ne_iff HR.out.2.2.1 rfl, ne_iff HR.out.2.2.2.1 rfl, ne_iff HR.out.2.2.2.2 rfl, HBC.out, ?_⟩
          unfold badV
          rw [if_neg (by rw [HV.out]; simp)]
          exact fun h => h e
      have HFI := hide hf
      clear hf c'
      go_wp2_with fail
      refine cz.mono ?_
      rintro e w6 ⟨rfl, hb⟩
      have hb6 := hb4.trans (hb.mono hb4.size)
      clear cz cv hb hlt
      go_wp2
      go_ret
      exact ⟨ret_bool HFI.out.symm, hb6⟩
    · as_aux_lemma =>
      have hf : t = uV := by
        rw [Bool.eq_iff_iff, HT.out, HC.out.2.2.1]
        constructor
        · intro e
          have e2 := e.2.2.2.2.2.2
          unfold badV at e2
          rw [if_pos HV.out] at e2
          exact Classical.not_not.1 e2
        · intro e
          refine ⟨ne_iff HR.out.1 rfl, ne_iff HR.out.2.1 rfl, ne_iff HR.out.2.2.1 rfl, ne_iff HR.out.2.2.2.1 rfl, ne_iff HR.out.2.2.2.2 rfl, HBC.out, ?_⟩
          unfold badV
          rw [if_pos HV.out]
          exact fun h => h e
      have HFI := hide hf
      clear hf c'
      go_wp2_with fail
      refine cv.mono ?_
      rintro e w6 ⟨rfl, hb⟩
      have hb6 := hb4.trans (hb.mono hb4.size)
      clear cz cv hb hlt
      go_wp2
      go_ret
      exact ⟨ret_bool HFI.out.symm, hb6⟩
  case false =>
    have cc := HCALLS.out.2.1 _ c6.below
    have hlt := c6.at_.lt
    have j14 := c6.at_.cells.2.2.2.2.2.2.2.2.2.2.2.2.2.2.1
    have j15 := c6.at_.cells.2.2.2.2.2.2.2.2.2.2.2.2.2.2.2.1
    have j16 := c6.at_.cells.2.2.2.2.2.2.2.2.2.2.2.2.2.2.2.2.1
    have j17 := c6.at_.cells.2.2.2.2.2.2.2.2.2.2.2.2.2.2.2.2.2.1
    have j18 := c6.at_.cells.2.2.2.2.2.2.2.2.2.2.2.2.2.2.2.2.2.2.1
    have j19 := c6.at_.cells.2.2.2.2.2.2.2.2.2.2.2.2.2.2.2.2.2.2.2.1
    have j20 := c6.at_.cells.2.2.2.2.2.2.2.2.2.2.2.2.2.2.2.2.2.2.2.2.1
    have j21 := c6.at_.cells.2.2.2.2.2.2.2.2.2.2.2.2.2.2.2.2.2.2.2.2.2.1
    have j22 := c6.at_.cells.2.2.2.2.2.2.2.2.2.2.2.2.2.2.2.2.2.2.2.2.2.2.1
    have j23 := c6.at_.cells.2.2.2.2.2.2.2.2.2.2.2.2.2.2.2.2.2.2.2.2.2.2.2.1
    have hcc := HC.out.2.1
    cases nC
    case false =>
      as_aux_lemma =>
      obtain rfl : t = false := not_of_iff HT.out (fun e => e.2.2.2.2.2.1 (by unfold badC; rw [if_neg (by rw [HRC2.out]; simp)]; exact fun e2 => (by have := hcc.2 e2; cases this)))
      clear hcc
      go_wp2_with fail
      refine cc.mono ?_
      rintro e w5 ⟨rfl, hb⟩
      have hb5 := c6.below.trans (hb.mono c6.below.size)
      clear cc hb hlt c6
      go_wp2
      go_ret
      exact ⟨rfl, hb5⟩
    have HBC := hide (show ¬ badC z.m by unfold badC; rw [if_neg (by rw [HRC2.out]; simp)]; exact fun e2 => e2 (hcc.1 rfl))
    clear hcc
    go_wp2_with fail
    refine cc.mono ?_
    rintro e w5 ⟨rfl, hb⟩
    have c' := c6.later hb
    clear cc hb hlt c6
    have H_V := HH.out.2.2.2.2.2.2.2.2.2
    go_upto_if 168 with (refine (H_V _).mono ?_; rintro e w8 ⟨rfl, rfl⟩)
    have hv : (letB z.m.kind 86) = h_V := HE.out.2.2.2.2.2.2.2.2.2.symm
    have hlt := c'.at_.lt
    have j24 := c'.at_.cells.2.2.2.2.2.2.2.2.2.2.2.2.2.2.2.2.2.2.2.2.2.2.2.2.1
    have j25 := c'.at_.cells.2.2.2.2.2.2.2.2.2.2.2.2.2.2.2.2.2.2.2.2.2.2.2.2.2.1
    have j26 := c'.at_.cells.2.2.2.2.2.2.2.2.2.2.2.2.2.2.2.2.2.2.2.2.2.2.2.2.2.2.1
    have j27 := c'.at_.cells.2.2.2.2.2.2.2.2.2.2.2.2.2.2.2.2.2.2.2.2.2.2.2.2.2.2.2.1
    have cv := HCALLS.out.2.2.1 _ c'.below
    have cz := HCALLS.out.2.2.2 _ c'.below
    have hb4 := c'.below
    have HV := hide hv
    clear hv
    cases h_V
    · as_aux_lemma =>
      have hf : t = nV := by
        rw [Bool.eq_iff_iff, HT.out, HC.out.2.2.2]
        constructor
        · intro e
          have e2 := e.2.2.2.2.2.2
          unfold badV at e2
          rw [if_neg (by rw [HV.out]; simp)] at e2
          exact Classical.not_not.1 e2
        · intro e
          refine ⟨ne_iff HR.out.1 rfl, ne_iff HR.out.2.1 rfl, ne_iff HR.out.2.2.1 rfl, ne_iff HR.out.2.2.2.1 rfl, ne_iff HR.out.2.2.2.2 rfl, HBC.out, ?_⟩
          unfold badV
          rw [if_neg (by rw [HV.out]; simp)]
          exact fun h => h e
      have HFI := hide hf
      clear hf c'
      go_wp2_with fail
      refine cz.mono ?_
      rintro e w6 ⟨rfl, hb⟩
      have hb6 := hb4.trans (hb.mono hb4.size)
      clear cz cv hb hlt
      go_wp2
      go_ret
      exact ⟨ret_bool HFI.out.symm, hb6⟩
    · as_aux_lemma =>
      have hf : t = uV := by
        rw [Bool.eq_iff_iff, HT.out, HC.out.2.2.1]
        constructor
        · intro e
          have e2 := e.2.2.2.2.2.2
          unfold badV at e2
          rw [if_pos HV.out] at e2
          exact Classical.not_not.1 e2
        · intro e
          refine ⟨ne_iff HR.out.1 rfl, ne_iff HR.out.2.1 rfl, ne_iff HR.out.2.2.1 rfl, ne_iff HR.out.2.2.2.1 rfl, ne_iff HR.out.2.2.2.2 rfl, HBC.out, ?_⟩
          unfold badV
          rw [if_pos HV.out]
          exact fun h => h e
      have HFI := hide hf
      clear hf c'
      go_wp2_with fail
      refine cv.mono ?_
      rintro e w6 ⟨rfl, hb⟩
      have hb6 := hb4.trans (hb.mono hb4.size)
      clear cz cv hb hlt
      go_wp2
      go_ret
      exact ⟨ret_bool HFI.out.symm, hb6⟩
end Go.Proofs.YtjmkecaljkcoiaaGreatDoor
