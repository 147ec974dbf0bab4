/-
  Layer 9: the document's examples, awake.
-/
import Derived.Lib.SlBytesConst
import Derived.Test.YtdmihbicpjmgjaaQCmd4
namespace Go.Proofs.Ytdmihbicpjmgjaa
open Go.RowKit Go.Maps
set_option linter.unusedVariables false
set_option linter.unusedSimpArgs false

def nopX : Cx := zX 1 zeroX
def sendX (g : Nat) : Cx := ⟨2, ⟨1, 1, by decide, by decide⟩, 2, 3, some ⟨g, 0, none⟩, 1, 1, [97], zeroX⟩
theorem nop_may : MayC nopX.m := ⟨.inl ⟨rfl, rfl⟩, by decide⟩
theorem send_may (g : Nat) : MayC (sendX g).m := by
  show MayC ⟨2, ⟨1, 1, by decide, by decide⟩, 2, 3, [97], noV⟩
  exact ⟨.inr (.inl ⟨rfl, by decide, ⟨by decide, by decide⟩, ⟨by decide, by decide⟩, rfl⟩), by decide⟩
/-- A literal's row with a mark behind it. -/
theorem bs_mark9 (w : World) (t : TypeId) (fr : Nat × Nat) (l : List UInt8) (cs : Array Value) (n : Nat) (hc : cs = (bvs l).toArray) (hn : l.length = n) : Bs (w.alloc (.cells cs t fr)) (w.heap.size + 1) (some ⟨w.heap.size, 0, none⟩) n l := by
  subst hc
  refine ⟨hn, fun _ => ⟨_, rfl, Nat.lt_succ_self _, fun j x hj => ?_⟩⟩
  have h := World.cell?_alloc_mark w (bvs l).toArray t fr j
  have e : (⟨w.heap.size, 0, none⟩ : Addr).add j = ⟨w.heap.size, j, none⟩ := by
    unfold Addr.add; split
    · subst_vars; rfl
    · simp
  rw [e, h]
  simp [bvs, hj]
theorem add_block (a : Addr) (j : Nat) : (a.add j).block = a.block := by unfold Addr.add; split <;> rfl
theorem zeroX_few : VSmall zeroX := ⟨by decide, by decide, by decide, fun y hy => by simp [zeroX] at hy⟩
theorem nop_form : [] ++ formC nopX.m = [1] := by decide
theorem send_form (g : Nat) : [1] ++ formC (sendX g).m = [1, 2, 1, 1, 2, 3, 1, 97] := by
  show [1] ++ formC ⟨2, ⟨1, 1, by decide, by decide⟩, 2, 3, [97], noV⟩ = _
  decide
set_option maxRecDepth 100000 in
theorem awake9_any (w : World) :
    Calls Try.prog 7 #[] w fun e w' => e = .returned (.bool true) ∧ Below w.heap.size w w' := by
  have h1 := WrAt.new w w.heap.size (Nat.le_refl _)
  have hb1 : Below w.heap.size w (w.alloc (.cells #[.slice none 0 0] 38)) := (Below.refl _ _).alloc (Nat.le_refl _) _
  have kc := fun (w : World) (C : Array Value) (n c : Nat) => Lib.run_convert_bytes_const (P := Try.prog) w 27 5 C n c Try.underlying27 Try.underlying5
  go_enter Try.func7, Try.ntmps7
  go_wp2_with fail
  have hs1 : (w.alloc (.cells #[.slice none 0 0] 38)).heap.size = w.heap.size + 1 := by simp
  generalize (w.alloc (.cells #[.slice none 0 0] 38)) = w1 at h1 hb1 hs1 ⊢
  have c1 := cput_any nopX w.heap.size w.heap.size w.heap.size none [] w1 h1 hb1.size (by decide) (zX_in (by decide) (by decide) (zeroX_at _ _)) (Nat.le_refl _) ⟨by decide, zeroX_few⟩ nop_may
  rw [nop_form] at c1
  refine c1.mono ?_
  rintro e w2 ⟨rfl, mg2, h2, ht2, hm2⟩
  have hb2 := hb1.trans (h1.turned ht2 hb1.size)
  have hs2 : w.heap.size + 1 ≤ w2.heap.size := by rw [← hs1]; exact ht2.size
  have hmg : ∀ g, mg2 = some g → g < w2.heap.size := fun g hg => (h2.mlt g hg).2.1
  have h3 := h2.alloc (.cells #[.int .u8 97] 5 (1, 2))
  have hb3 := hb2.alloc hb2.size (.cells #[.int .u8 97] 5 (1, 2))
  have hd3 : Bs (w2.alloc (.cells #[.int .u8 97] 5 (1, 2))) (w2.heap.size + 1) (some ⟨w2.heap.size, 0, none⟩) 1 [97] := by
    exact bs_mark9 w2 _ _ [97] #[.int .u8 97] 1 (by rfl) rfl
  have hs3 : (w2.alloc (.cells #[.int .u8 97] 5 (1, 2))).heap.size = w2.heap.size + 1 := by simp
  go_wp2_with fail
  generalize (w2.alloc (.cells #[.int .u8 97] 5 (1, 2))) = w3 at *
  have hfar : ∀ W, Turn w3 W w.heap.size mg2 → Bs W (w2.heap.size + 1) (some ⟨w2.heap.size, 0, none⟩) 1 [97] := fun W hT => by
    refine ⟨rfl, fun _ => ?_⟩
    obtain ⟨ad, e, hlt, hc⟩ := hd3.2 (by decide)
    refine ⟨ad, e, hlt, fun j x hx => ?_⟩
    injection e with e
    subst e
    exact hT.cell (hc j x hx) (by rw [add_block]; show w2.heap.size ≠ _; omega) (fun e => by rw [add_block] at e; exact absurd (hmg _ e.symm) (Nat.lt_irrefl _))
  have c2 := cput_far (sendX w2.heap.size) w.heap.size w.heap.size (w2.heap.size + 1) w.heap.size mg2 [1] w3 h3 hb3.size (by decide) ⟨by show (-9223372036854775808 : Int) ≤ 2; decide, by show (2 : Int) ≤ 9223372036854775807; decide, by show 2 < 18446744073709551616; decide, by show 3 < 18446744073709551616; decide, hd3, Nat.le_refl _, by show 1 ≤ maxLen; decide, zeroX_at _ _⟩ (by omega) hfar (zeroX_at _ _) (Nat.le_refl _) ⟨by show 1 ≤ 400; decide, zeroX_few⟩ (send_may _)
  rw [send_form] at c2
  clear c1
  refine c2.mono ?_
  rintro e w4 ⟨rfl, mg4, h4, ht4, hm4⟩
  have hb4 := hb3.trans (h3.turned ht4 hb3.size)
  clear c2 hfar hd3 hmg
  go_wp2_with fail
  refine (wdone_any w.heap.size _ mg4 [1, 2, 1, 1, 2, 3, 1, 97] w4 h4 (by decide)).mono ?_
  rintro e w5 ⟨A5, c5, rfl, hO5, hb5⟩
  have hb6 := (hb4.trans (hb5.mono hb4.size))
  have hb7 := hb6.alloc hb6.size (.cells #[.int .u8 1, .int .u8 2, .int .u8 1, .int .u8 1, .int .u8 2, .int .u8 3, .int .u8 1, .int .u8 97] 5)
  clear hb1 hb2 hb3 hb4 hb5 h1 h2 h3 h4 ht2 ht4 hm2 hm4 hs1 hs2 hs3
  go_wp2_with fail
  refine (same_eq _ _ _ _ _ _ [1, 2, 1, 1, 2, 3, 1, 97] [1, 2, 1, 1, 2, 3, 1, 97] _ _ _ (hO5.alloc _).bs (own_lit w5 0 8 [1, 2, 1, 1, 2, 3, 1, 97] _ (by rfl) rfl (by decide) (Nat.zero_le _)).bs (by decide) rfl).mono ?_
  rintro e w6 ⟨rfl, hd⟩
  have hbz := hb7.trans (drawn_below hd)
  clear hd hO5 hb6 hb7
  go_wp2
  go_ret
  exact ⟨rfl, hbz⟩
end Go.Proofs.Ytdmihbicpjmgjaa
namespace Go.Proofs.Ytdmihbicpjmgjaa
open Go.RowKit Go.Maps
set_option linter.unusedVariables false
set_option linter.unusedSimpArgs false

/-- A command of the call's own. -/
structure CxOwn (w : World) (base : Nat) (y : Cx) : Prop where
  bs : OwnB w base (.slice y.A y.n y.c) y.n y.l
  v : VwOwn w base y.x
theorem CxOwn.later {w w' : World} {base : Nat} {y : Cx} (h : CxOwn w base y) (hb : Below w.heap.size w w') : CxOwn w' base y := ⟨OwnB.later h.bs hb, h.v.later hb⟩
theorem CxOwn.mono {w : World} {base base' : Nat} {y : Cx} (h : CxOwn w base y) (hb : base' ≤ base) : CxOwn w base' y := ⟨OwnB.mono h.bs hb, h.v.mono hb⟩
theorem OwnB.room9 {w : World} {base n c : Nat} {A : Option Addr} {l : List UInt8} (h : OwnB w base (.slice A n c) n l) : c ≤ maxLen := by
  rcases h.2 with ⟨hv, rfl⟩ | ⟨g, cap, cur, hv, _, _, h1, h2, _⟩
  · injection hv with _ _ hc; subst hc; decide
  · injection hv with _ _ hc; subst hc; exact h2
/-- What numbers a command may have. -/
structure CNums (y : Cx) : Prop where
  k0 : -9223372036854775808 ≤ y.kind
  k1 : y.kind ≤ 9223372036854775807
  hn : y.num < 18446744073709551616
  hv : y.vn < 18446744073709551616
  hi : y.x.id < 18446744073709551616
theorem CxOwn.in_ {w : World} {base : Nat} {y : Cx} (h : CxOwn w base y) (hk : CNums y) : CxIn w w.heap.size y :=
  ⟨hk.k0, hk.k1, hk.hn, hk.hv, OwnB.bs h.bs, OwnB.cap h.bs, OwnB.room9 h.bs, h.v.in_ hk.hi⟩
def Copy9P (w : World) (y : Cx) (e : Ending) (w' : World) : Prop := ∃ z : Cx, e = .returned (.agg #[.int .i64 z.kind, .int .u16 (z.p.i : Int), .int .u32 (z.p.k : Int), .int .u64 (z.num : Int), .int .u64 (z.vn : Int), .slice z.A z.n z.c, .int .u64 (z.x.id : Int), .slice z.x.A z.x.m z.x.c, .slice z.x.B z.x.d z.x.e, .slice z.x.C z.x.f z.x.g]) ∧ z.m = y.m ∧ z.n = y.n ∧ CNums z ∧ CSmall z ∧ CxOwn w' w.heap.size z ∧ Below w.heap.size w w'
theorem OwnB.setOld9 {w : World} {base n : Nat} {v : Value} {l : List UInt8} (h : OwnB w base v n l) {p : Addr} (hp : p.block < base) (u : Value) : OwnB (w.setCell p u) base v n l := by
  refine ⟨h.1, ?_⟩
  rcases h.2 with h0 | ⟨g, cap, cur, hv, hb, hg, h1, h2, h3, h4⟩
  · exact .inl h0
  · exact .inr ⟨g, cap, cur, hv, hb, (heap_setCell_other w p g u (by omega)).trans hg, h1, h2, h3, h4⟩
theorem VwOwn.setFar9 {w : World} {base : Nat} {x : Vw} (h : VwOwn w base x) {a : Addr} (u : Value) (ha : a.block < base) : VwOwn (w.setCell a u) base x :=
  ⟨h.ms.set_far u ha, h.lv.set_far u ha, fun y hy => (h.each y hy).set_far u ha, h.dr.set_far u ha⟩
theorem CxOwn.setFar {w : World} {base : Nat} {y : Cx} (h : CxOwn w base y) {a : Addr} (u : Value) (ha : a.block < base) : CxOwn (w.setCell a u) base y :=
  ⟨OwnB.setOld9 h.bs ha u, h.v.setFar9 u ha⟩
/-- A view is stored in a command. -/
def putV (w : World) (b : Nat) (x : Vw) : World := (((w.setCell ⟨b, 6, none⟩ (.int .u64 (x.id : Int))).setCell ⟨b, 7, none⟩ (.slice x.A x.m x.c)).setCell ⟨b, 8, none⟩ (.slice x.B x.d x.e)).setCell ⟨b, 9, none⟩ (.slice x.C x.f x.g)
theorem CAt.setD {w : World} {b : Nat} {y : Cx} (h : CAt w b y) (A : Option Addr) (n c : Nat) (l : List UInt8) : CAt (w.setCell ⟨b, 5, none⟩ (.slice A n c)) b ⟨y.kind, y.p, y.num, y.vn, A, n, c, l, y.x⟩ := heap_setCell_same w b 5 _ _ _ h
theorem CAt.setV {w : World} {b : Nat} {y : Cx} (h : CAt w b y) (x : Vw) : CAt (putV w b x) b ⟨y.kind, y.p, y.num, y.vn, y.A, y.n, y.c, y.l, x⟩ := by
  have h1 := heap_setCell_same w b 6 _ _ (.int .u64 (x.id : Int)) h
  have h2 := heap_setCell_same _ b 7 _ _ (.slice x.A x.m x.c) h1
  have h3 := heap_setCell_same _ b 8 _ _ (.slice x.B x.d x.e) h2
  exact heap_setCell_same _ b 9 _ _ (.slice x.C x.f x.g) h3
/-- A whole command is stored. -/
def put10 (w : World) (b : Nat) (y : Cx) : World :=
  putV ((((((w.setCell ⟨b, 0, none⟩ (.int .i64 y.kind)).setCell ⟨b, 1, none⟩ (.int .u16 (y.p.i : Int))).setCell ⟨b, 2, none⟩ (.int .u32 (y.p.k : Int))).setCell ⟨b, 3, none⟩ (.int .u64 (y.num : Int))).setCell ⟨b, 4, none⟩ (.int .u64 (y.vn : Int))).setCell ⟨b, 5, none⟩ (.slice y.A y.n y.c)) b y.x
theorem CAt.put {w : World} {b : Nat} {y : Cx} (h : CAt w b y) (z : Cx) : CAt (put10 w b z) b z := by
  have h0 := heap_setCell_same w b 0 _ _ (.int .i64 z.kind) h
  have h1 := heap_setCell_same _ b 1 _ _ (.int .u16 (z.p.i : Int)) h0
  have h2 := heap_setCell_same _ b 2 _ _ (.int .u32 (z.p.k : Int)) h1
  have h3 := heap_setCell_same _ b 3 _ _ (.int .u64 (z.num : Int)) h2
  have h4 := heap_setCell_same _ b 4 _ _ (.int .u64 (z.vn : Int)) h3
  have h5 := heap_setCell_same _ b 5 _ _ (.slice z.A z.n z.c) h4
  exact CAt.setV (y := ⟨z.kind, z.p, z.num, z.vn, z.A, z.n, z.c, z.l, y.x⟩) h5 z.x
theorem CAt.farV {w : World} {b g : Nat} {y : Cx} (h : CAt w g y) (x : Vw) (hn : g ≠ b) : CAt (putV w b x) g y := (((h.far _ hn).far _ hn).far _ hn).far _ hn
theorem below_putV {B b : Nat} {w w' : World} (h : Below B w w') (hb : B ≤ b) (x : Vw) : Below B w (putV w' b x) := (((h.setCell hb _).setCell hb _).setCell hb _).setCell hb _
theorem below_put10 {B b : Nat} {w w' : World} (h : Below B w w') (hb : B ≤ b) (y : Cx) : Below B w (put10 w' b y) := below_putV ((((((h.setCell hb _).setCell hb _).setCell hb _).setCell hb _).setCell hb _).setCell hb _) hb _
theorem CxOwn.farV {w : World} {base b : Nat} {y : Cx} (h : CxOwn w base y) (x : Vw) (hb : b < base) : CxOwn (putV w b x) base y := (((h.setFar _ hb).setFar _ hb).setFar _ hb).setFar _ hb
theorem CxOwn.far10 {w : World} {base b : Nat} {y : Cx} (h : CxOwn w base y) (z : Cx) (hb : b < base) : CxOwn (put10 w b z) base y := CxOwn.farV ((((((h.setFar _ hb).setFar _ hb).setFar _ hb).setFar _ hb).setFar _ hb).setFar _ hb) _ hb
theorem vsmall_copy {x y : Vw} (h : VSmall x) (h1 : y.m = x.m) (h2 : y.d = x.d) (h3 : y.f = x.f) (h4 : y.q.map Lf.m = x.q.map Lf.m) : VSmall y := by
  refine ⟨h1 ▸ h.m, h2 ▸ h.d, h3 ▸ h.f, fun z hz => ?_⟩
  have : z.m ∈ x.q.map Lf.m := by rw [← h4]; exact List.mem_map_of_mem hz
  obtain ⟨z', hz', e⟩ := List.mem_map.1 this
  rw [← e]
  exact h.each z' hz'
set_option maxRecDepth 100000 in
set_option maxHeartbeats 2000000 in
theorem copy9_any (y : Cx) (B : Nat) (w : World) (h : CxIn w B y) (hs : CSmall y) (hB : B ≤ w.heap.size) :
    Calls Try.prog 19 #[.agg #[.int .i64 y.kind, .int .u16 (y.p.i : Int), .int .u32 (y.p.k : Int), .int .u64 (y.num : Int), .int .u64 (y.vn : Int), .slice y.A y.n y.c, .int .u64 (y.x.id : Int), .slice y.x.A y.x.m y.x.c, .slice y.x.B y.x.d y.x.e, .slice y.x.C y.x.f y.x.g]] w (Copy9P w y) := by
  have v0 : CAt ((w.alloc (.cells #[.int .i64 y.kind, .int .u16 (y.p.i : Int), .int .u32 (y.p.k : Int), .int .u64 (y.num : Int), .int .u64 (y.vn : Int), .slice y.A y.n y.c, .int .u64 (y.x.id : Int), .slice y.x.A y.x.m y.x.c, .slice y.x.B y.x.d y.x.e, .slice y.x.C y.x.f y.x.g] 33)).alloc (.cells #[.int .i64 0, .int .u16 0, .int .u32 0, .int .u64 0, .int .u64 0, .slice none 0 0, .int .u64 0, .slice none 0 0, .slice none 0 0, .slice none 0 0] 33)) w.heap.size y := (CAt.mk_ w y).alloc _
  have z0 : CAt ((w.alloc (.cells #[.int .i64 y.kind, .int .u16 (y.p.i : Int), .int .u32 (y.p.k : Int), .int .u64 (y.num : Int), .int .u64 (y.vn : Int), .slice y.A y.n y.c, .int .u64 (y.x.id : Int), .slice y.x.A y.x.m y.x.c, .slice y.x.B y.x.d y.x.e, .slice y.x.C y.x.f y.x.g] 33)).alloc (.cells #[.int .i64 0, .int .u16 0, .int .u32 0, .int .u64 0, .int .u64 0, .slice none 0 0, .int .u64 0, .slice none 0 0, .slice none 0 0, .slice none 0 0] 33)) (w.heap.size + 1) (zX 0 zeroX) := by
    have := CAt.mk_ (w.alloc (.cells #[.int .i64 y.kind, .int .u16 (y.p.i : Int), .int .u32 (y.p.k : Int), .int .u64 (y.num : Int), .int .u64 (y.vn : Int), .slice y.A y.n y.c, .int .u64 (y.x.id : Int), .slice y.x.A y.x.m y.x.c, .slice y.x.B y.x.d y.x.e, .slice y.x.C y.x.f y.x.g] 33)) (zX 0 zeroX)
    rw [World.size_alloc] at this
    exact this
  have hbz : Below w.heap.size w ((w.alloc (.cells #[.int .i64 y.kind, .int .u16 (y.p.i : Int), .int .u32 (y.p.k : Int), .int .u64 (y.num : Int), .int .u64 (y.vn : Int), .slice y.A y.n y.c, .int .u64 (y.x.id : Int), .slice y.x.A y.x.m y.x.c, .slice y.x.B y.x.d y.x.e, .slice y.x.C y.x.f y.x.g] 33)).alloc (.cells #[.int .i64 0, .int .u16 0, .int .u32 0, .int .u64 0, .int .u64 0, .slice none 0 0, .int .u64 0, .slice none 0 0, .slice none 0 0, .slice none 0 0] 33)) := ((Below.refl _ _).alloc (Nat.le_refl _) _).alloc (by simp) _
  have hszz : w.heap.size + 1 + 1 ≤ ((w.alloc (.cells #[.int .i64 y.kind, .int .u16 (y.p.i : Int), .int .u32 (y.p.k : Int), .int .u64 (y.num : Int), .int .u64 (y.vn : Int), .slice y.A y.n y.c, .int .u64 (y.x.id : Int), .slice y.x.A y.x.m y.x.c, .slice y.x.B y.x.d y.x.e, .slice y.x.C y.x.f y.x.g] 33)).alloc (.cells #[.int .i64 0, .int .u16 0, .int .u32 0, .int .u64 0, .int .u64 0, .slice none 0 0, .int .u64 0, .slice none 0 0, .slice none 0 0, .slice none 0 0] 33)).heap.size := by simp
  obtain ⟨kind, p, num, vn, A, n, c, l, xv⟩ := y
  obtain ⟨hs1, hs2⟩ := hs
  obtain ⟨i1, i2, i3, i4, i5, i6, i7, i8⟩ := h
  dsimp only at *
  have cc := clone_any A n c l B _ (i5.below (hbz.mono hB)) (Nat.le_trans hB hbz.size) (by omega)
  have cv := fun W (hb : Below w.heap.size w W) => copy_any xv B W (i8.below (hb.mono hB)) hs2 (Nat.le_trans hB hb.size)
  obtain ⟨j0, j1, j2, j3, j4, j5, j6, j7, j8, j9⟩ := v0.cells
  dsimp only at j0 j1 j2 j3 j4 j5 j6 j7 j8 j9
  go_enter Try.func19, Try.ntmps19
  go_wp2_with fail
  generalize ((w.alloc (.cells #[.int .i64 kind, .int .u16 (p.i : Int), .int .u32 (p.k : Int), .int .u64 (num : Int), .int .u64 (vn : Int), .slice A n c, .int .u64 (xv.id : Int), .slice xv.A xv.m xv.c, .slice xv.B xv.d xv.e, .slice xv.C xv.f xv.g] 33)).alloc (.cells #[.int .i64 0, .int .u16 0, .int .u32 0, .int .u64 0, .int .u64 0, .slice none 0 0, .int .u64 0, .slice none 0 0, .slice none 0 0, .slice none 0 0] 33)) = w1 at *
  refine cc.mono ?_
  rintro e w2 ⟨A1, c1, rfl, o1, hb1⟩
  have hb2 := hbz.trans (hb1.mono hbz.size)
  have hsz2 : w.heap.size + 1 + 1 ≤ w2.heap.size := Nat.le_trans hszz hb1.size
  have v2 := v0.later hb1
  have z2 := z0.later hb1
  have o2 := OwnB.mono o1 hszz
  clear cc hb1 v0 z0 o1 hszz hbz j0 j1 j2 j3 j4 j5 j6 j7 j8 j9
  obtain ⟨j0, j1, j2, j3, j4, j5, j6, j7, j8, j9⟩ := v2.cells
  dsimp only at j0 j1 j2 j3 j4 j5 j6 j7 j8 j9
  have y0 := v2.fz 5
  have y1 := v2.lt
  have y2 := z2.lt
  have v3 := v2.setD A1 n c1 l
  have z3 := z2.far (a := ⟨w.heap.size, 5, none⟩) (.slice A1 n c1) (by simp)
  have o3 := OwnB.setOld9 o2 (p := ⟨w.heap.size, 5, none⟩) (by show w.heap.size < w.heap.size + 1 + 1; omega) (.slice A1 n c1)
  have hb3 : Below w.heap.size w (w2.setCell ⟨w.heap.size, 5, none⟩ (.slice A1 n c1)) := hb2.setCell (by simp) _
  have hsz3 : w.heap.size + 1 + 1 ≤ (w2.setCell ⟨w.heap.size, 5, none⟩ (.slice A1 n c1)).heap.size := by simp; omega
  have cv3 := cv _ hb3
  unfold CopyP at cv3
  obtain ⟨_, _, _, _, _, _, k6, k7, k8, k9⟩ := v3.cells
  dsimp only at k6 k7 k8 k9 v3
  clear v2 z2 o2 hb2 cv
  go_wp2_with fail
  generalize (w2.setCell ⟨w.heap.size, 5, none⟩ (.slice A1 n c1)) = w3 at *
  refine cv3.mono ?_
  rintro e w4 ⟨x2, rfl, q1, q2, q3, q4, q5, ho, hb1⟩
  have hb4 := hb3.trans (hb1.mono hb3.size)
  have hsz4 : w.heap.size + 1 + 1 ≤ w4.heap.size := Nat.le_trans hsz3 hb1.size
  have v4 := v3.later hb1
  have z4 := z3.later hb1
  have o4 : CxOwn w4 (w.heap.size + 1 + 1) ⟨kind, p, num, vn, A1, n, c1, l, x2⟩ := ⟨OwnB.later o3 hb1, ho.mono hsz3⟩
  have hsx : VSmall x2 := vsmall_copy hs2 q2 q3 q4 q5
  have hid : x2.id = xv.id := congrArg Vi.id q1
  clear cv3 j0 j1 j2 j3 j4 j5 j6 j7 j8 j9 k6 k7 k8 k9 y0 y1 y2 v3 z3 o3 hb3 hb1 ho
  obtain ⟨j0, j1, j2, j3, j4, j5, j6, j7, j8, j9⟩ := v4.cells
  obtain ⟨k0, k1, k2, k3, k4, k5, k6, k7, k8, k9⟩ := z4.cells
  dsimp only [zX, zeroX] at j0 j1 j2 j3 j4 j5 j6 j7 j8 j9 k0 k1 k2 k3 k4 k5 k6 k7 k8 k9
  have f0 := v4.fz 6
  have f1 := v4.fz 7
  have f2 := v4.fz 8
  have f3 := v4.fz 9
  have e0 := z4.fz 0
  have e1 := z4.fz 1
  have e2 := z4.fz 2
  have e3 := z4.fz 3
  have e4 := z4.fz 4
  have e5 := z4.fz 5
  have e6 := z4.fz 6
  have e7 := z4.fz 7
  have e8 := z4.fz 8
  have e9 := z4.fz 9
  have y1 := v4.lt
  have y2 := z4.lt
  have t5 := (z4.farV (b := w.heap.size) x2 (by omega)).put ⟨kind, p, num, vn, A1, n, c1, l, x2⟩
  have o5 := CxOwn.far10 (b := w.heap.size + 1) (o4.farV (b := w.heap.size) x2 (by omega)) ⟨kind, p, num, vn, A1, n, c1, l, x2⟩ (by omega)
  have hb5 := below_put10 (b := w.heap.size + 1) (below_putV hb4 (Nat.le_refl _) x2) (by omega) ⟨kind, p, num, vn, A1, n, c1, l, x2⟩
  have HF := hide (And.intro t5 (And.intro o5 (And.intro hb5 (And.intro q1 (And.intro hid hsx)))))
  have HI := hide (And.intro i1 (And.intro i2 (And.intro i3 (And.intro i4 (And.intro i8.hid hs1)))))
  clear v4 z4 o4 t5 o5 hb5 hb4 hid hsx q1 q2 q3 q4 q5 i1 i2 i3 i4 i5 i6 i7 i8 hs1 hs2
  go_wp2
  obtain ⟨t5, o5, hb5, q1, hid, hsx⟩ := HF.out
  obtain ⟨t0, t1, t2, t3, t4, t5, t6, t7, t8, t9⟩ := t5.cells
  obtain ⟨i1, i2, i3, i4, i5, i6⟩ := HI.out
  clear HF HI j0 j1 j2 j3 j4 j5 j6 j7 j8 j9 k0 k1 k2 k3 k4 k5 k6 k7 k8 k9 f0 f1 f2 f3 e0 e1 e2 e3 e4 e5 e6 e7 e8 e9 y1 y2
  simp only [put10, putV] at t0 t1 t2 t3 t4 t5 t6 t7 t8 t9 o5 hb5
  refine bodyPost_ret (v := .agg #[.int .i64 kind, .int .u16 (p.i : Int), .int .u32 (p.k : Int), .int .u64 (num : Int), .int .u64 (vn : Int), .slice A1 n c1, .int .u64 (x2.id : Int), .slice x2.A x2.m x2.c, .slice x2.B x2.d x2.e, .slice x2.C x2.f x2.g]) (by simp [results, Try.results19, go_sem, t0, t1, t2, t3, t4, t5, t6, t7, t8, t9]) rfl ⟨⟨kind, p, num, vn, A1, n, c1, l, x2⟩, rfl, ?_, rfl, ⟨i1, i2, i3, i4, by show x2.id < _; rw [hid]; exact i5⟩, ⟨i6, hsx⟩, o5.mono (by omega), hb5⟩
  simp only [Cx.m, q1]
end Go.Proofs.Ytdmihbicpjmgjaa
