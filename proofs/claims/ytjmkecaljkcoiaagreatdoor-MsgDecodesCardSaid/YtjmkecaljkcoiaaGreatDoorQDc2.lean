import Derived.Test.YtjmkecaljkcoiaaGreatDoorQMsg10L
import Derived.Test.YtjmkecaljkcoiaaGreatDoorQMsg12
import Derived.Test.YtjmkecaljkcoiaaGreatDoorQMsg8
import Derived.Test.YtjmkecaljkcoiaaGreatDoorQRfS
import Derived.Test.YtjmkecaljkcoiaaGreatDoorQRfW
namespace Go.Proofs.YtjmkecaljkcoiaaGreatDoor
open Go.RowKit Go.Maps
set_option linter.unusedVariables false
set_option linter.unusedSimpArgs false
def DcR (w : World) (b g : Nat) (x : Ms × RS) (W : World) : Prop := ∃ z : Mx, z.m = x.1 ∧ DcG w W b x.2 g z
theorem DcR.later {w W W' : World} {b g : Nat} {x : Ms × RS} (h : DcR w b g x W) (hb : Below W.heap.size W W') : DcR w b g x W' := by
  obtain ⟨z, h1, h2⟩ := h
  exact ⟨z, h1, h2.later hb⟩
theorem fldI_nil {k : Nat} (h : k = 0) : fldI (k : Int) = [] := by subst h; rfl
set_option maxRecDepth 100000 in
set_option maxHeartbeats 8000000 in
theorem rdecode10_any (A : Option Addr) (n c : Nat) (l : List UInt8) (B : Nat) (w : World) (hA : Bs w B A n l) (hB : B ≤ w.heap.size) (hnc : n ≤ c) (hcm : c ≤ maxLen) :
    Calls Tryz.prog 17 #[.slice A n c] w (DecP10 w (decM l)) := by
  have hbz : Below w.heap.size w (w.alloc (.cells #[.int .i64 0, .int .u16 0, .int .u32 0, .int .u64 0, .int .u64 0, .int .u64 0, .int .i64 0, .int .u32 0, .int .u16 0, .int .u32 0, .int .u32 0, .int .u16 0, .int .u32 0, .bool false, .int .i64 0, .int .u16 0, .int .u32 0, .int .u64 0, .int .u64 0, .slice none 0 0, .int .u64 0, .slice none 0 0, .slice none 0 0, .slice none 0 0, .int .u64 0, .slice none 0 0, .slice none 0 0, .slice none 0 0, .slice none 0 0] 50)) := (Below.refl _ _).alloc (Nat.le_refl _) _
  have z0 : MAt10 (w.alloc (.cells #[.int .i64 0, .int .u16 0, .int .u32 0, .int .u64 0, .int .u64 0, .int .u64 0, .int .i64 0, .int .u32 0, .int .u16 0, .int .u32 0, .int .u32 0, .int .u16 0, .int .u32 0, .bool false, .int .i64 0, .int .u16 0, .int .u32 0, .int .u64 0, .int .u64 0, .slice none 0 0, .int .u64 0, .slice none 0 0, .slice none 0 0, .slice none 0 0, .int .u64 0, .slice none 0 0, .slice none 0 0, .slice none 0 0, .slice none 0 0] 50)) w.heap.size zeroM := MAt10.mk_ w zeroM
  have hs1 : (w.alloc (.cells #[.int .i64 0, .int .u16 0, .int .u32 0, .int .u64 0, .int .u64 0, .int .u64 0, .int .i64 0, .int .u32 0, .int .u16 0, .int .u32 0, .int .u32 0, .int .u16 0, .int .u32 0, .bool false, .int .i64 0, .int .u16 0, .int .u32 0, .int .u64 0, .int .u64 0, .slice none 0 0, .int .u64 0, .slice none 0 0, .slice none 0 0, .slice none 0 0, .int .u64 0, .slice none 0 0, .slice none 0 0, .slice none 0 0, .slice none 0 0] 50)).heap.size = w.heap.size + 1 := by simp
  have hlen := hA.len
  subst hlen
  have hb2 : Below w.heap.size w ((w.alloc (.cells #[.int .i64 0, .int .u16 0, .int .u32 0, .int .u64 0, .int .u64 0, .int .u64 0, .int .i64 0, .int .u32 0, .int .u16 0, .int .u32 0, .int .u32 0, .int .u16 0, .int .u32 0, .bool false, .int .i64 0, .int .u16 0, .int .u32 0, .int .u64 0, .int .u64 0, .slice none 0 0, .int .u64 0, .slice none 0 0, .slice none 0 0, .slice none 0 0, .int .u64 0, .slice none 0 0, .slice none 0 0, .slice none 0 0, .slice none 0 0] 50)).alloc (.cells #[.slice A l.length c, .int .i64 0] 98)) := hbz.alloc hbz.size _
  have rf2 : RfAt ((w.alloc (.cells #[.int .i64 0, .int .u16 0, .int .u32 0, .int .u64 0, .int .u64 0, .int .u64 0, .int .i64 0, .int .u32 0, .int .u16 0, .int .u32 0, .int .u32 0, .int .u16 0, .int .u32 0, .bool false, .int .i64 0, .int .u16 0, .int .u32 0, .int .u64 0, .int .u64 0, .slice none 0 0, .int .u64 0, .slice none 0 0, .slice none 0 0, .slice none 0 0, .int .u64 0, .slice none 0 0, .slice none 0 0, .slice none 0 0, .slice none 0 0] 50)).alloc (.cells #[.slice A l.length c, .int .i64 0] 98)) (w.heap.size + 1) l 0 := ⟨A, c, by rw [← hs1]; exact heap_alloc_new _ _, (hA.below (hb2.mono hB)).more (by omega), hnc, hcm⟩
  have zz2 : MAt10 ((w.alloc (.cells #[.int .i64 0, .int .u16 0, .int .u32 0, .int .u64 0, .int .u64 0, .int .u64 0, .int .i64 0, .int .u32 0, .int .u16 0, .int .u32 0, .int .u32 0, .int .u16 0, .int .u32 0, .bool false, .int .i64 0, .int .u16 0, .int .u32 0, .int .u64 0, .int .u64 0, .slice none 0 0, .int .u64 0, .slice none 0 0, .slice none 0 0, .slice none 0 0, .int .u64 0, .slice none 0 0, .slice none 0 0, .slice none 0 0, .slice none 0 0] 50)).alloc (.cells #[.slice A l.length c, .int .i64 0] 98)) w.heap.size zeroM := z0.alloc _
  have hs2 : ((w.alloc (.cells #[.int .i64 0, .int .u16 0, .int .u32 0, .int .u64 0, .int .u64 0, .int .u64 0, .int .i64 0, .int .u32 0, .int .u16 0, .int .u32 0, .int .u32 0, .int .u16 0, .int .u32 0, .bool false, .int .i64 0, .int .u16 0, .int .u32 0, .int .u64 0, .int .u64 0, .slice none 0 0, .int .u64 0, .slice none 0 0, .slice none 0 0, .slice none 0 0, .int .u64 0, .slice none 0 0, .slice none 0 0, .slice none 0 0, .slice none 0 0] 50)).alloc (.cells #[.slice A l.length c, .int .i64 0] 98)).heap.size = w.heap.size + 2 := by simp
  obtain ⟨x, hx⟩ : ∃ x, x = getM ⟨l, 0⟩ := ⟨_, rfl⟩
  have hd1 : endF x.2.l x.2.t ≠ 0 → decM l = (kindM 0, endF x.2.l x.2.t) := by rw [hx]; exact decM_err
  have hd2 : endF x.2.l x.2.t = 0 → MayM x.1 → decM l = (x.1, 0) := by rw [hx]; exact decM_yes
  have hd3 : endF x.2.l x.2.t = 0 → ¬ MayM x.1 → decM l = (kindM 0, 5) := by rw [hx]; exact decM_no
  have hgf := getM_fold ⟨l, 0⟩
  rw [← hx] at hgf
  have c1 := xnum_tot (w.heap.size + 1) 14 ⟨l, 0⟩ _ rf2 (by decide)
  have hk14 := numS_le 14 ⟨l, 0⟩
  obtain ⟨k, hk⟩ : ∃ k, k = (numS 14 ⟨l, 0⟩).1 := ⟨_, rfl⟩
  obtain ⟨s1, hs1d⟩ : ∃ x, x = (numS 14 ⟨l, 0⟩).2 := ⟨_, rfl⟩
  rw [← hk, ← hs1d] at c1 hgf
  rw [← hk] at hk14
  have HX := hide (And.intro hgf (And.intro hd1 (And.intro hd2 hd3)))
  clear hA hx hd1 hd2 hd3 hgf hk hs1d rf2 hbz z0 hs1
  have wr : IntKind.i64.wrap (k : Int) = (k : Int) := by rw [IntKind.wrap_i64]; omega
  go_enter Tryz.func17, Tryz.ntmps17
  generalize hw2 : ((w.alloc (.cells #[.int .i64 0, .int .u16 0, .int .u32 0, .int .u64 0, .int .u64 0, .int .u64 0, .int .i64 0, .int .u32 0, .int .u16 0, .int .u32 0, .int .u32 0, .int .u16 0, .int .u32 0, .bool false, .int .i64 0, .int .u16 0, .int .u32 0, .int .u64 0, .int .u64 0, .slice none 0 0, .int .u64 0, .slice none 0 0, .slice none 0 0, .slice none 0 0, .int .u64 0, .slice none 0 0, .slice none 0 0, .slice none 0 0, .slice none 0 0] 50)).alloc (.cells #[.slice A l.length c, .int .i64 0] 98)) = w2 at *
  have c1' : Calls Tryz.prog 53 #[.pointer (some ⟨w.heap.size + 1, 0, none⟩), .int .u64 14] w2 (ReadsF w2 (w.heap.size + 1) (.int .u64 k) s1.l s1.t) := c1
  clear c1
  go_wp2_with fail
  refine c1'.mono ?_
  rintro e w3 ⟨rfl, h3, t3⟩
  have hs3 := t3.size
  have bl3 : Below w.heap.size w w3 := hb2.trans (t3.below hb2.size (Nat.le_succ _) (fun g hg => by cases hg))
  have zz3 := zz2.turn t3 (by omega) (by simp)
  clear c1' hw2 t3 hb2 zz2
  obtain ⟨b, hb⟩ : ∃ b, b = w.heap.size + 1 := ⟨_, rfl⟩
  rw [← hb] at h3 ⊢
  have hwb : w.heap.size < b := by omega
  have HBB := hide hb
  have hb3 : b < w3.heap.size := by omega
  clear hb
  obtain ⟨kX, hkX⟩ : ∃ z : Mx, z = ⟨(k : Int), default, 0, 0, 0, 0, default, default, false, zX 0 zeroX, zeroX, none, 0, 0, []⟩ := ⟨_, rfl⟩
  have z3 : MAt10 (w3.alloc (.cells #[.int .i64 0, .int .u16 0, .int .u32 0, .int .u64 0, .int .u64 0, .int .u64 0, .int .i64 0, .int .u32 0, .int .u16 0, .int .u32 0, .int .u32 0, .int .u16 0, .int .u32 0, .bool false, .int .i64 0, .int .u16 0, .int .u32 0, .int .u64 0, .int .u64 0, .slice none 0 0, .int .u64 0, .slice none 0 0, .slice none 0 0, .slice none 0 0, .int .u64 0, .slice none 0 0, .slice none 0 0, .slice none 0 0, .slice none 0 0] 50)) w3.heap.size zeroM := MAt10.mk_ w3 zeroM
  have ST : ∀ {ops : Array Oper} {rest : List Oper} {o : Oper} {a : Act} {Q : Exit → Act → World → Prop} (hgd : o.guard = none) (x y : Operand) (ho : o.op = .store 50 x y)
    (hx : a.eval x = .pointer (some ⟨w3.heap.size, 0, none⟩)) (hy : a.eval y = .agg #[.int .i64 k, .int .u16 0, .int .u32 0, .int .u64 0, .int .u64 0, .int .u64 0, .int .i64 0, .int .u32 0, .int .u16 0, .int .u32 0, .int .u32 0, .int .u16 0, .int .u32 0, .bool false, .int .i64 0, .int .u16 0, .int .u32 0, .int .u64 0, .int .u64 0, .slice none 0 0, .int .u64 0, .slice none 0 0, .slice none 0 0, .slice none 0 0, .int .u64 0, .slice none 0 0, .slice none 0 0, .slice none 0 0, .slice none 0 0]) (h : ∀ W', StoM (w3.alloc (.cells #[.int .i64 0, .int .u16 0, .int .u32 0, .int .u64 0, .int .u64 0, .int .u64 0, .int .i64 0, .int .u32 0, .int .u16 0, .int .u32 0, .int .u32 0, .int .u16 0, .int .u32 0, .bool false, .int .i64 0, .int .u16 0, .int .u32 0, .int .u64 0, .int .u64 0, .slice none 0 0, .int .u64 0, .slice none 0 0, .slice none 0 0, .slice none 0 0, .int .u64 0, .slice none 0 0, .slice none 0 0, .slice none 0 0, .slice none 0 0] 50)) w3.heap.size kX W' → wpList Tryz.prog ops Q rest (a.put o.dst undef) W'), wpList Tryz.prog ops Q (o :: rest) a (w3.alloc (.cells #[.int .i64 0, .int .u16 0, .int .u32 0, .int .u64 0, .int .u64 0, .int .u64 0, .int .i64 0, .int .u32 0, .int .u16 0, .int .u32 0, .int .u32 0, .int .u16 0, .int .u32 0, .bool false, .int .i64 0, .int .u16 0, .int .u32 0, .int .u64 0, .int .u64 0, .slice none 0 0, .int .u64 0, .slice none 0 0, .slice none 0 0, .slice none 0 0, .int .u64 0, .slice none 0 0, .slice none 0 0, .slice none 0 0, .slice none 0 0] 50)) :=
    fun {ops rest o a Q} hgd x y ho hx hy h => wpList_store_msg kX zeroM w3.heap.size hgd x y ho hx (by rw [hkX]; exact hy) z3 h
  have hkm : kX.m = kindM k := by rw [hkX]; rfl
  have hown : MxOwn (w3.alloc (.cells #[.int .i64 0, .int .u16 0, .int .u32 0, .int .u64 0, .int .u64 0, .int .u64 0, .int .i64 0, .int .u32 0, .int .u16 0, .int .u32 0, .int .u32 0, .int .u16 0, .int .u32 0, .bool false, .int .i64 0, .int .u16 0, .int .u32 0, .int .u64 0, .int .u64 0, .slice none 0 0, .int .u64 0, .slice none 0 0, .slice none 0 0, .slice none 0 0, .int .u64 0, .slice none 0 0, .slice none 0 0, .slice none 0 0, .slice none 0 0] 50)) (w3.heap.size + 1) kX := by rw [hkX]; exact ⟨⟨OwnB.nil_ _ _, zeroX_own _ _⟩, zeroX_own _ _, OwnB.nil_ _ _⟩
  have hnum : MNums kX := by
    rw [hkX]
    exact ⟨by show (-9223372036854775808 : Int) ≤ (k : Int); omega, by show (k : Int) ≤ 9223372036854775807; omega, zeroM_num.hv, zeroM_num.hs, zeroM_num.hn, zeroM_num.h0, zeroM_num.h1, zeroM_num.cm, zeroM_num.vw⟩
  have hsm : MSmall kX := by rw [hkX]; exact ⟨Nat.zero_le _, ⟨Nat.zero_le _, zeroX_few⟩, zeroX_few⟩
  have hkk : kX.kind = (k : Int) := by rw [hkX]
  have hKX := hide hkk
  have HN := hide (And.intro hkm (And.intro hown (And.intro hnum hsm)))
  clear hkX hkm hown hnum hsm hkk
  go_wp2_with (refine ST rfl (.tmp 5) (.tmp 15) rfl rfl rfl ?_)
  intro w4 hst
  have v4 := hst.at_ z3
  have bl4 : Below w.heap.size w w4 := hst.below (bl3.alloc bl3.size _) (by omega)
  have ht4 : Turn w w4 b none := Turn.of_below bl4 _ _
  have r4 : MAt10 w4 w.heap.size zeroM := (hst.other (by omega)).trans (zz3.alloc _)
  have o4 : MxOwn w4 (w3.heap.size + 1) kX := HN.out.2.1.turnLow (hst.turn1) (by omega)
  have d4 : RfAt w4 b s1.l s1.t := (h3.alloc (.cells #[.int .i64 0, .int .u16 0, .int .u32 0, .int .u64 0, .int .u64 0, .int .u64 0, .int .i64 0, .int .u32 0, .int .u16 0, .int .u32 0, .int .u32 0, .int .u16 0, .int .u32 0, .bool false, .int .i64 0, .int .u16 0, .int .u32 0, .int .u64 0, .int .u64 0, .slice none 0 0, .int .u64 0, .slice none 0 0, .slice none 0 0, .slice none 0 0, .int .u64 0, .slice none 0 0, .slice none 0 0, .slice none 0 0, .slice none 0 0] 50)).turn hst.turn1 (by omega) (fun g hg => by cases hg)
  have p0 : DcR w b w3.heap.size (kindM k, s1) w4 := ⟨kX, HN.out.1, ⟨v4, r4, o4, HN.out.2.2.1, HN.out.2.2.2, d4, ht4, by omega⟩⟩
  obtain ⟨f, hfd⟩ : ∃ f, f = fldI (k : Int) := ⟨_, rfl⟩
  have cf := fields10_any (k : Int) w4 (by omega) (by omega)
  rw [← hfd] at cf
  have j0 := v4.cells.1
  rw [hKX.out] at j0
  have hlt4 := v4.lt
  clear ST z3 hst r4 o4 h3 d4 bl4 zz3 hKX HN
  go_wp2_with fail
  refine cf.mono ?_
  rintro e w5 ⟨rfl, hb5⟩
  have p1 := p0.later hb5
  have hsz5 := hb5.size
  have hlb : b < w5.heap.size := by obtain ⟨z, h1, h2⟩ := p1; exact h2.rd.lt
  clear cf p0 hb5 j0 ht4 v4 bl3
  obtain ⟨g, hg⟩ : ∃ g, g = w3.heap.size := ⟨_, rfl⟩
  rw [← hg] at p1 ⊢
  have hbg : b < g := by omega
  have hgl : g < w5.heap.size := by omega
  clear hg hsz5 hlt4 hs2 hs3
  by_cases hk0 : k = 0
  · skip
    obtain ⟨z, hm, hG⟩ := p1
    have he : (tx10 f).toList = [] := by unfold tx10; rw [ByteArray.toList_mk, hfd]; exact fldI_nil hk0
    have hz0 : (tx10 f).size = 0 := by rw [tx10_size, hfd, fldI_nil hk0]; rfl
    have hx : x = (kindM 0, s1) := by rw [HX.out.1, fldI_nil hk0, hk0]; rfl
    have hnm : ¬ MayM (kindM 0) := fun e => (by have := e.kind.1; revert this; decide)
    have hd : ∀ q, q = (if s1.t = 0 then 5 else s1.t) → decM l = (kindM 0, q) := fun q hq => by
      by_cases ht : s1.t = 0
      · rw [if_pos ht] at hq
        by_cases hl : s1.l.length = 0
        · rw [hq]
          exact HX.out.2.2.2 (by rw [hx]; unfold endF; rw [if_pos ht, if_pos hl]) (by rw [hx]; exact hnm)
        · have e : endF x.2.l x.2.t = 5 := by rw [hx]; unfold endF; rw [if_pos ht, if_neg hl]
          rw [HX.out.2.1 (by rw [e]; decide), e, hq]
      · rw [if_neg ht] at hq
        have e : endF x.2.l x.2.t = s1.t := by rw [hx]; unfold endF; rw [if_neg ht]
        rw [HX.out.2.1 (by rw [e]; exact ht), e, hq]
    have hbl : Below w.heap.size w w5 := hG.turn.below (Nat.le_refl _) (Nat.le_of_lt hwb) (fun g hg => by cases hg)
    have hrr := hG.r
    have hrd := hG.rd
    have HD := hide hd
    clear hm hG hx hnm hd hfd
    generalize tx10 f = sf at *
    obtain ⟨A1, c1, h1⟩ := hrd
    obtain ⟨f0, f1⟩ := h1.cells
    have fz := h1.frozen
    by_cases ht : s1.t = 0
    · obtain ⟨q, hq⟩ : ∃ q : Nat, q = 5 := ⟨_, rfl⟩
      have hdm := HD.out q (by rw [if_pos ht, hq])
      have hq0 : q ≠ 0 := by omega
      have f1' : w5.cell? ⟨b, 1, none⟩ = some (.int .i64 0) := by rw [f1, ht]; rfl
      obtain ⟨W8, hW8⟩ : ∃ W, W = w5.setCell ⟨b, 1, none⟩ (.int .i64 5) := ⟨_, rfl⟩
      have rd8 : RfAt W8 b s1.l q := by rw [hW8, hq]; exact (h1.set1 5).at_
      have hr8 : MAt10 W8 w.heap.size zeroM := by rw [hW8]; exact MAt10.far hrr (a := ⟨b, 1, none⟩) (.int .i64 5) (by show w.heap.size ≠ b; omega)
      have bl8 : Below w.heap.size w W8 := by rw [hW8]; exact hbl.setCell (p := ⟨b, 1, none⟩) (Nat.le_of_lt hwb) _
      have hl8 := hr8.lt
      clear f1 h1 hrr hbl hq ht HD
      have ce := xend_any b s1.l q W8 rd8
      rw [show endF s1.l q = q from by unfold endF; rw [if_neg hq0]] at ce
      have x0 : ((q : Int) != 0) = true := by rw [bne_iff_ne]; omega
      have x1 : ((q : Int) == 0) = false := by rw [beq_eq_false_iff_ne]; omega
      have HDM := hide hdm
      clear hdm hq0
      go_wp2
      rw [← hW8]
      clear hW8 f0 f1' fz
      go_loopw [7] (fun i wr => i = .int .i64 0 ∧ wr = W8) (fun _ _ => 0)
      case atStart => exact ⟨rfl, rfl⟩
      case round =>
        obtain ⟨rfl, rfl⟩ := hrel
        go_wp2_with fail
        refine ce.mono ?_
        rintro e w6 ⟨rfl, rfl⟩
        clear ce
        go_wp2_with (refine wpList_store_msg zeroM zeroM w.heap.size rfl (.tmp 2) (.tmp 110) rfl rfl rfl hr8 ?_)
        intro w7 hst
        have hv7 := hst.at_ hr8
        have hfin : DecP10 w (decM l) (.returned (.tuple #[.agg #[.int .i64 zeroM.kind, .int .u16 zeroM.who.i, .int .u32 zeroM.who.k, .int .u64 zeroM.view, .int .u64 zeroM.slot, .int .u64 zeroM.num, .int .i64 zeroM.hops, .int .u32 zeroM.b.r, .int .u16 zeroM.b.p.i, .int .u32 zeroM.b.p.k, .int .u32 zeroM.a.r, .int .u16 zeroM.a.p.i, .int .u32 zeroM.a.p.k, .bool zeroM.has, .int .i64 zeroM.y.kind, .int .u16 zeroM.y.p.i, .int .u32 zeroM.y.p.k, .int .u64 zeroM.y.num, .int .u64 zeroM.y.vn, .slice zeroM.y.A zeroM.y.n zeroM.y.c, .int .u64 zeroM.y.x.id, .slice zeroM.y.x.A zeroM.y.x.m zeroM.y.x.c, .slice zeroM.y.x.B zeroM.y.x.d zeroM.y.x.e, .slice zeroM.y.x.C zeroM.y.x.f zeroM.y.x.g, .int .u64 zeroM.x.id, .slice zeroM.x.A zeroM.x.m zeroM.x.c, .slice zeroM.x.B zeroM.x.d zeroM.x.e, .slice zeroM.x.C zeroM.x.f zeroM.x.g, .slice zeroM.A zeroM.n zeroM.c], .int .i64 q])) w7 := by
          rw [HDM.out]
          exact ⟨zeroM, rfl, rfl, zeroM_own _ _, zeroM_num, ⟨Nat.zero_le _, ⟨Nat.zero_le _, zeroX_few⟩, zeroX_few⟩, hst.below bl8 (Nat.le_refl _)⟩
        go_wp2_with fail
        exact bodyPost_ret (v := .tuple #[.agg #[.int .i64 zeroM.kind, .int .u16 zeroM.who.i, .int .u32 zeroM.who.k, .int .u64 zeroM.view, .int .u64 zeroM.slot, .int .u64 zeroM.num, .int .i64 zeroM.hops, .int .u32 zeroM.b.r, .int .u16 zeroM.b.p.i, .int .u32 zeroM.b.p.k, .int .u32 zeroM.a.r, .int .u16 zeroM.a.p.i, .int .u32 zeroM.a.p.k, .bool zeroM.has, .int .i64 zeroM.y.kind, .int .u16 zeroM.y.p.i, .int .u32 zeroM.y.p.k, .int .u64 zeroM.y.num, .int .u64 zeroM.y.vn, .slice zeroM.y.A zeroM.y.n zeroM.y.c, .int .u64 zeroM.y.x.id, .slice zeroM.y.x.A zeroM.y.x.m zeroM.y.x.c, .slice zeroM.y.x.B zeroM.y.x.d zeroM.y.x.e, .slice zeroM.y.x.C zeroM.y.x.f zeroM.y.x.g, .int .u64 zeroM.x.id, .slice zeroM.x.A zeroM.x.m zeroM.x.c, .slice zeroM.x.B zeroM.x.d zeroM.x.e, .slice zeroM.x.C zeroM.x.f zeroM.x.g, .slice zeroM.A zeroM.n zeroM.c], .int .i64 q]) (results_cell_slot Tryz.results17 _ _ (w.heap.size) _ _ _ _ _ rfl rfl hv7 Tryz.underlying50 rfl size_msg) rfl hfin
    · obtain ⟨q, hq⟩ : ∃ q : Nat, q = s1.t := ⟨_, rfl⟩
      have hdm := HD.out q (by rw [if_neg ht, hq])
      have hq0 : q ≠ 0 := by rw [hq]; exact ht
      rw [← hq] at f1
      have rd8 : RfAt w5 b s1.l q := by rw [hq]; exact h1.at_
      have hr8 := hrr
      have bl8 := hbl
      have hl8 := hr8.lt
      clear h1 hrr hbl hq ht HD
      have ce := xend_any b s1.l q w5 rd8
      rw [show endF s1.l q = q from by unfold endF; rw [if_neg hq0]] at ce
      have x0 : ((q : Int) != 0) = true := by rw [bne_iff_ne]; omega
      have x1 : ((q : Int) == 0) = false := by rw [beq_eq_false_iff_ne]; omega
      have HDM := hide hdm
      clear hdm hq0
      go_wp2
      go_loopw [7] (fun i wr => i = .int .i64 0 ∧ wr = w5) (fun _ _ => 0)
      case atStart => exact ⟨rfl, rfl⟩
      case round =>
        obtain ⟨rfl, rfl⟩ := hrel
        go_wp2_with fail
        refine ce.mono ?_
        rintro e w6 ⟨rfl, rfl⟩
        clear ce
        go_wp2_with (refine wpList_store_msg zeroM zeroM w.heap.size rfl (.tmp 2) (.tmp 110) rfl rfl rfl hr8 ?_)
        intro w7 hst
        have hv7 := hst.at_ hr8
        have hfin : DecP10 w (decM l) (.returned (.tuple #[.agg #[.int .i64 zeroM.kind, .int .u16 zeroM.who.i, .int .u32 zeroM.who.k, .int .u64 zeroM.view, .int .u64 zeroM.slot, .int .u64 zeroM.num, .int .i64 zeroM.hops, .int .u32 zeroM.b.r, .int .u16 zeroM.b.p.i, .int .u32 zeroM.b.p.k, .int .u32 zeroM.a.r, .int .u16 zeroM.a.p.i, .int .u32 zeroM.a.p.k, .bool zeroM.has, .int .i64 zeroM.y.kind, .int .u16 zeroM.y.p.i, .int .u32 zeroM.y.p.k, .int .u64 zeroM.y.num, .int .u64 zeroM.y.vn, .slice zeroM.y.A zeroM.y.n zeroM.y.c, .int .u64 zeroM.y.x.id, .slice zeroM.y.x.A zeroM.y.x.m zeroM.y.x.c, .slice zeroM.y.x.B zeroM.y.x.d zeroM.y.x.e, .slice zeroM.y.x.C zeroM.y.x.f zeroM.y.x.g, .int .u64 zeroM.x.id, .slice zeroM.x.A zeroM.x.m zeroM.x.c, .slice zeroM.x.B zeroM.x.d zeroM.x.e, .slice zeroM.x.C zeroM.x.f zeroM.x.g, .slice zeroM.A zeroM.n zeroM.c], .int .i64 q])) w7 := by
          rw [HDM.out]
          exact ⟨zeroM, rfl, rfl, zeroM_own _ _, zeroM_num, ⟨Nat.zero_le _, ⟨Nat.zero_le _, zeroX_few⟩, zeroX_few⟩, hst.below bl8 (Nat.le_refl _)⟩
        go_wp2_with fail
        exact bodyPost_ret (v := .tuple #[.agg #[.int .i64 zeroM.kind, .int .u16 zeroM.who.i, .int .u32 zeroM.who.k, .int .u64 zeroM.view, .int .u64 zeroM.slot, .int .u64 zeroM.num, .int .i64 zeroM.hops, .int .u32 zeroM.b.r, .int .u16 zeroM.b.p.i, .int .u32 zeroM.b.p.k, .int .u32 zeroM.a.r, .int .u16 zeroM.a.p.i, .int .u32 zeroM.a.p.k, .bool zeroM.has, .int .i64 zeroM.y.kind, .int .u16 zeroM.y.p.i, .int .u32 zeroM.y.p.k, .int .u64 zeroM.y.num, .int .u64 zeroM.y.vn, .slice zeroM.y.A zeroM.y.n zeroM.y.c, .int .u64 zeroM.y.x.id, .slice zeroM.y.x.A zeroM.y.x.m zeroM.y.x.c, .slice zeroM.y.x.B zeroM.y.x.d zeroM.y.x.e, .slice zeroM.y.x.C zeroM.y.x.f zeroM.y.x.g, .int .u64 zeroM.x.id, .slice zeroM.x.A zeroM.x.m zeroM.x.c, .slice zeroM.x.B zeroM.x.d zeroM.x.e, .slice zeroM.x.C zeroM.x.f zeroM.x.g, .slice zeroM.A zeroM.n zeroM.c], .int .i64 q]) (results_cell_slot Tryz.results17 _ _ (w.heap.size) _ _ _ _ _ rfl rfl hv7 Tryz.underlying50 rfl size_msg) rfl hfin
  have hnl : ¬ (tx10 f).toList = [] := by
    unfold tx10
    rw [ByteArray.toList_mk, hfd]
    exact fun e => (fldI_some (k := (k : Int))).2 ⟨by omega, by omega⟩ (by simpa using e)
  have hfl : f.length ≤ 5 := by rw [hfd]; exact fldT_len _
  have TEN := fun (j : Nat) (hj : j < f.length) => ten_of (k := (k : Int)) (c := f[j]) (by rw [← hfd]; exact List.getElem_mem hj)
  have hch := fun (j : Nat) (hj : j < f.length) W => char10 f j hj W
  have hz := tx10_size f
  have HCH := hide hch
  have HTEN := hide TEN
  have HFD := hide hfd
  clear hch TEN hfd
  go_wp2
  clear hnl
  go_loopw [7] (fun i wr => ∃ j : Nat, i = .int .i64 j ∧ j ≤ f.length ∧ DcR w b g (fold10 (f.take j) (kindM k, s1)) wr) (fun i _ => f.length - (intOf i).toNat)
  case atStart => exact ⟨0, rfl, Nat.zero_le _, by rw [List.take_zero]; exact p1⟩
  case round =>
    obtain ⟨j, rfl, hj, pr⟩ := hrel
    clear p1 hlb hgl
    by_cases hlt : j < f.length
    case neg =>
      rw [List.take_of_length_le (by omega), HFD.out, ← HX.out.1] at pr
      obtain ⟨z, hm, hG⟩ := pr
      have ce := xend_any b x.2.l x.2.t _ hG.rd
      obtain ⟨q, hq⟩ : ∃ q, q = endF x.2.l x.2.t := ⟨_, rfl⟩
      rw [← hq] at ce
      have HQ := hide hq
      have hv := hG.v
      have hrr := hG.r
      have hbl : Below w.heap.size w wr := hG.turn.below (Nat.le_refl _) (Nat.le_of_lt hwb) (fun g hg => by cases hg)
      have HO := hide (And.intro hm (And.intro hG.own (And.intro hG.num hG.sm)))
      have hlg := hv.lt
      have hlr := hrr.lt
      have hgg : w.heap.size < g := by omega
      clear hm hG hq
      go_wp2_with fail
      refine ce.mono ?_
      rintro e w6 ⟨rfl, rfl⟩
      clear ce
      by_cases h0 : q = 0
      case neg =>
        have x0 : ((q : Int) != 0) = true := by rw [bne_iff_ne]; omega
        have x1 : ((q : Int) == 0) = false := by rw [beq_eq_false_iff_ne]; omega
        have hdm : decM l = (kindM 0, q) := by rw [HX.out.2.1 (by rw [← HQ.out]; exact h0), ← HQ.out]
        have HDM := hide hdm
        clear hdm h0
        go_wp2_with (refine wpList_store_msg zeroM zeroM w.heap.size rfl (.tmp 2) (.tmp 110) rfl rfl rfl hrr ?_)
        intro w7 hst
        have hv7 := hst.at_ hrr
        have hfin : DecP10 w (decM l) (.returned (.tuple #[.agg #[.int .i64 zeroM.kind, .int .u16 zeroM.who.i, .int .u32 zeroM.who.k, .int .u64 zeroM.view, .int .u64 zeroM.slot, .int .u64 zeroM.num, .int .i64 zeroM.hops, .int .u32 zeroM.b.r, .int .u16 zeroM.b.p.i, .int .u32 zeroM.b.p.k, .int .u32 zeroM.a.r, .int .u16 zeroM.a.p.i, .int .u32 zeroM.a.p.k, .bool zeroM.has, .int .i64 zeroM.y.kind, .int .u16 zeroM.y.p.i, .int .u32 zeroM.y.p.k, .int .u64 zeroM.y.num, .int .u64 zeroM.y.vn, .slice zeroM.y.A zeroM.y.n zeroM.y.c, .int .u64 zeroM.y.x.id, .slice zeroM.y.x.A zeroM.y.x.m zeroM.y.x.c, .slice zeroM.y.x.B zeroM.y.x.d zeroM.y.x.e, .slice zeroM.y.x.C zeroM.y.x.f zeroM.y.x.g, .int .u64 zeroM.x.id, .slice zeroM.x.A zeroM.x.m zeroM.x.c, .slice zeroM.x.B zeroM.x.d zeroM.x.e, .slice zeroM.x.C zeroM.x.f zeroM.x.g, .slice zeroM.A zeroM.n zeroM.c], .int .i64 q])) w7 := by
          rw [HDM.out]
          exact ⟨zeroM, rfl, rfl, zeroM_own _ _, zeroM_num, ⟨Nat.zero_le _, ⟨Nat.zero_le _, zeroX_few⟩, zeroX_few⟩, hst.below hbl (Nat.le_refl _)⟩
        go_wp2_with fail
        exact bodyPost_ret (v := .tuple #[.agg #[.int .i64 zeroM.kind, .int .u16 zeroM.who.i, .int .u32 zeroM.who.k, .int .u64 zeroM.view, .int .u64 zeroM.slot, .int .u64 zeroM.num, .int .i64 zeroM.hops, .int .u32 zeroM.b.r, .int .u16 zeroM.b.p.i, .int .u32 zeroM.b.p.k, .int .u32 zeroM.a.r, .int .u16 zeroM.a.p.i, .int .u32 zeroM.a.p.k, .bool zeroM.has, .int .i64 zeroM.y.kind, .int .u16 zeroM.y.p.i, .int .u32 zeroM.y.p.k, .int .u64 zeroM.y.num, .int .u64 zeroM.y.vn, .slice zeroM.y.A zeroM.y.n zeroM.y.c, .int .u64 zeroM.y.x.id, .slice zeroM.y.x.A zeroM.y.x.m zeroM.y.x.c, .slice zeroM.y.x.B zeroM.y.x.d zeroM.y.x.e, .slice zeroM.y.x.C zeroM.y.x.f zeroM.y.x.g, .int .u64 zeroM.x.id, .slice zeroM.x.A zeroM.x.m zeroM.x.c, .slice zeroM.x.B zeroM.x.d zeroM.x.e, .slice zeroM.x.C zeroM.x.f zeroM.x.g, .slice zeroM.A zeroM.n zeroM.c], .int .i64 q]) (results_cell_slot Tryz.results17 _ _ (w.heap.size) _ _ _ _ _ rfl rfl hv7 Tryz.underlying50 rfl size_msg) rfl hfin
      have x0 : ((q : Int) != 0) = false := by rw [h0]; rfl
      have x1 : ((q : Int) == 0) = true := by rw [h0]; rfl
      obtain ⟨t, ht⟩ := bool_of (MayM z.m)
      have ck := rcheck10_any z wr.heap.size wr t (HO.out.2.1.in_ HO.out.2.2.1) HO.out.2.2.2 (Nat.le_refl _) ht
      have HT := hide (And.intro ht h0)
      clear ht h0
      go_wp2_with (first | refine wpList_load_msg z g rfl (.tmp 5) rfl rfl hv ?_ | refine wpList_load_msg_yes z g rfl (.tmp 5) rfl rfl hv ?_)
      refine ck.mono ?_
      rintro e w6 ⟨rfl, hb6⟩
      have hv6 := hv.later hb6
      have hrr6 := hrr.later hb6
      have hbl6 := hbl.trans (hb6.mono hbl.size)
      have ow6 := HO.out.2.1.later hb6
      have hl6 := hrr6.lt
      have hl7 := hv6.lt
      clear ck hb6 hv hrr hbl
      cases t
      · have hdm : decM l = (kindM 0, 5) := HX.out.2.2.2 (by rw [← HQ.out]; exact HT.out.2) (by rw [← HO.out.1]; exact fun e => (by have := HT.out.1.2 e; cases this))
        have HDM := hide hdm
        clear hdm ow6
        go_wp2_with (refine wpList_store_msg zeroM zeroM w.heap.size rfl (.tmp 2) (.tmp 110) rfl rfl rfl hrr6 ?_)
        intro w7 hst
        have hv7 := hst.at_ hrr6
        have hfin : DecP10 w (decM l) (.returned (.tuple #[.agg #[.int .i64 zeroM.kind, .int .u16 zeroM.who.i, .int .u32 zeroM.who.k, .int .u64 zeroM.view, .int .u64 zeroM.slot, .int .u64 zeroM.num, .int .i64 zeroM.hops, .int .u32 zeroM.b.r, .int .u16 zeroM.b.p.i, .int .u32 zeroM.b.p.k, .int .u32 zeroM.a.r, .int .u16 zeroM.a.p.i, .int .u32 zeroM.a.p.k, .bool zeroM.has, .int .i64 zeroM.y.kind, .int .u16 zeroM.y.p.i, .int .u32 zeroM.y.p.k, .int .u64 zeroM.y.num, .int .u64 zeroM.y.vn, .slice zeroM.y.A zeroM.y.n zeroM.y.c, .int .u64 zeroM.y.x.id, .slice zeroM.y.x.A zeroM.y.x.m zeroM.y.x.c, .slice zeroM.y.x.B zeroM.y.x.d zeroM.y.x.e, .slice zeroM.y.x.C zeroM.y.x.f zeroM.y.x.g, .int .u64 zeroM.x.id, .slice zeroM.x.A zeroM.x.m zeroM.x.c, .slice zeroM.x.B zeroM.x.d zeroM.x.e, .slice zeroM.x.C zeroM.x.f zeroM.x.g, .slice zeroM.A zeroM.n zeroM.c], .int .i64 5])) w7 := by
          rw [HDM.out]
          exact ⟨zeroM, rfl, rfl, zeroM_own _ _, zeroM_num, ⟨Nat.zero_le _, ⟨Nat.zero_le _, zeroX_few⟩, zeroX_few⟩, hst.below hbl6 (Nat.le_refl _)⟩
        go_wp2_with fail
        exact bodyPost_ret (v := .tuple #[.agg #[.int .i64 zeroM.kind, .int .u16 zeroM.who.i, .int .u32 zeroM.who.k, .int .u64 zeroM.view, .int .u64 zeroM.slot, .int .u64 zeroM.num, .int .i64 zeroM.hops, .int .u32 zeroM.b.r, .int .u16 zeroM.b.p.i, .int .u32 zeroM.b.p.k, .int .u32 zeroM.a.r, .int .u16 zeroM.a.p.i, .int .u32 zeroM.a.p.k, .bool zeroM.has, .int .i64 zeroM.y.kind, .int .u16 zeroM.y.p.i, .int .u32 zeroM.y.p.k, .int .u64 zeroM.y.num, .int .u64 zeroM.y.vn, .slice zeroM.y.A zeroM.y.n zeroM.y.c, .int .u64 zeroM.y.x.id, .slice zeroM.y.x.A zeroM.y.x.m zeroM.y.x.c, .slice zeroM.y.x.B zeroM.y.x.d zeroM.y.x.e, .slice zeroM.y.x.C zeroM.y.x.f zeroM.y.x.g, .int .u64 zeroM.x.id, .slice zeroM.x.A zeroM.x.m zeroM.x.c, .slice zeroM.x.B zeroM.x.d zeroM.x.e, .slice zeroM.x.C zeroM.x.f zeroM.x.g, .slice zeroM.A zeroM.n zeroM.c], .int .i64 5]) (results_cell_slot Tryz.results17 _ _ (w.heap.size) _ _ _ _ _ rfl rfl hv7 Tryz.underlying50 rfl size_msg) rfl hfin
      · have hdm : decM l = (x.1, 0) := HX.out.2.2.1 (by rw [← HQ.out]; exact HT.out.2) (by rw [← HO.out.1]; exact HT.out.1.1 rfl)
        have HDM := hide hdm
        have HW := hide ow6
        clear hdm ow6
        go_wp2_with (first | (refine wpList_load_msg z g rfl (.tmp 5) rfl rfl hv6 ?_) | (refine wpList_store_msg z zeroM w.heap.size rfl (.tmp 2) (.tmp 112) rfl rfl rfl hrr6 ?_))
        intro w7 hst
        have hv7 := hst.at_ hrr6
        have hfin : DecP10 w (decM l) (.returned (.tuple #[.agg #[.int .i64 z.kind, .int .u16 z.who.i, .int .u32 z.who.k, .int .u64 z.view, .int .u64 z.slot, .int .u64 z.num, .int .i64 z.hops, .int .u32 z.b.r, .int .u16 z.b.p.i, .int .u32 z.b.p.k, .int .u32 z.a.r, .int .u16 z.a.p.i, .int .u32 z.a.p.k, .bool z.has, .int .i64 z.y.kind, .int .u16 z.y.p.i, .int .u32 z.y.p.k, .int .u64 z.y.num, .int .u64 z.y.vn, .slice z.y.A z.y.n z.y.c, .int .u64 z.y.x.id, .slice z.y.x.A z.y.x.m z.y.x.c, .slice z.y.x.B z.y.x.d z.y.x.e, .slice z.y.x.C z.y.x.f z.y.x.g, .int .u64 z.x.id, .slice z.x.A z.x.m z.x.c, .slice z.x.B z.x.d z.x.e, .slice z.x.C z.x.f z.x.g, .slice z.A z.n z.c], .int .i64 0])) w7 := by
          rw [HDM.out]
          exact ⟨z, rfl, HO.out.1, (HW.out.turnLow hst.turn1 (by omega)).mono (by omega), HO.out.2.2.1, HO.out.2.2.2, hst.below hbl6 (Nat.le_refl _)⟩
        go_wp2_with fail
        exact bodyPost_ret (v := .tuple #[.agg #[.int .i64 z.kind, .int .u16 z.who.i, .int .u32 z.who.k, .int .u64 z.view, .int .u64 z.slot, .int .u64 z.num, .int .i64 z.hops, .int .u32 z.b.r, .int .u16 z.b.p.i, .int .u32 z.b.p.k, .int .u32 z.a.r, .int .u16 z.a.p.i, .int .u32 z.a.p.k, .bool z.has, .int .i64 z.y.kind, .int .u16 z.y.p.i, .int .u32 z.y.p.k, .int .u64 z.y.num, .int .u64 z.y.vn, .slice z.y.A z.y.n z.y.c, .int .u64 z.y.x.id, .slice z.y.x.A z.y.x.m z.y.x.c, .slice z.y.x.B z.y.x.d z.y.x.e, .slice z.y.x.C z.y.x.f z.y.x.g, .int .u64 z.x.id, .slice z.x.A z.x.m z.x.c, .slice z.x.B z.x.d z.x.e, .slice z.x.C z.x.f z.x.g, .slice z.A z.n z.c], .int .i64 0]) (results_cell_slot Tryz.results17 _ _ (w.heap.size) _ _ _ _ _ rfl rfl hv7 Tryz.underlying50 rfl size_msg) rfl hfin
    case pos =>
    have hc := HCH.out j hlt
    have ten := HTEN.out j hlt
    have hnx := fold10_step hlt (kindM k, s1)
    have hltz : j < (tx10 f).size := by omega
    obtain ⟨x0, hx0⟩ : ∃ x, x = fold10 (f.take j) (kindM k, s1) := ⟨_, rfl⟩
    rw [← hx0] at pr hnx
    generalize f[j] = xc at hc ten hnx
    obtain ⟨z, hm, hG⟩ := pr
    have hgw := hG.v.lt
    have hbw := hG.rd.lt
    clear hx0 hj
    rcases ten with rfl | rfl | rfl | rfl | rfl | rfl | rfl | rfl | rfl | rfl
    · -- 119
      have hc' : ∀ W, (Instr.index 9 (.string (tx10 f)) (.int .i64 j)).run Tryz.prog W = .ok (.int .u8 119) W := hc
      clear hc
      rw [stL_119] at hnx
      have cr := xpid_tot b x0.2 _ hG.rd
      obtain ⟨r, hr⟩ : ∃ r, r = pidQ x0.2 := ⟨_, rfl⟩
      rw [← hr] at cr hnx
      have HR := hide hr
      have HNX := hide hnx
      clear hr hnx
      go_wp2_with fail
      refine cr.mono ?_
      rintro e w6 ⟨rfl, hr5, ht5⟩
      have hG5 : DcG w w6 b r.2 g z := hG.read (s' := r.2) hwb ht5 hr5
      have hgn := hG5.setWho hwb r.1
      have hgr := (⟨_, (by show _ = ({ x0.1 with who := r.1 } : Ms); rw [← hm]; rfl), hgn⟩ : DcR w b g ({ x0.1 with who := r.1 }, r.2) _)
      rw [← HNX.out] at hgr
      obtain ⟨j0, j1, j2, j3, j4, j5, j6, j7, j8, j9, j10, j11, j12, j13, j14, j15, j16, j17, j18, j19, j20, j21, j22, j23, j24, j25, j26, j27, j28⟩ := hG5.v.cells
      have fz := hG5.v.fz
      have hl5' := hG5.v.lt
      have HGR := hide hgr
      clear hgr hgn hG5 hG hr5 ht5 cr
      go_wp2_with fail
      go_roundw
      case rel => exact ⟨j + 1, by go_num, by omega, HGR.out⟩
      case measure => simp [intOf]; omega
    · -- 118
      have hc' : ∀ W, (Instr.index 9 (.string (tx10 f)) (.int .i64 j)).run Tryz.prog W = .ok (.int .u8 118) W := hc
      clear hc
      rw [stL_118] at hnx
      have cr := xnum_tot b 4611686018427387904 x0.2 _ hG.rd (by decide)
      obtain ⟨r, hr⟩ : ∃ r, r = numS 4611686018427387904 x0.2 := ⟨_, rfl⟩
      rw [← hr] at cr hnx
      have HR := hide hr
      have HNX := hide hnx
      clear hr hnx
      go_wp2_with fail
      refine cr.mono ?_
      rintro e w6 ⟨rfl, hr5, ht5⟩
      have hG5 : DcG w w6 b r.2 g z := hG.read (s' := r.2) hwb ht5 hr5
      have hgn := hG5.setView hwb r.1 (by have := numS_le 4611686018427387904 x0.2; rw [← HR.out] at this; omega)
      have hgr := (⟨_, (by show _ = ({ x0.1 with view := r.1 } : Ms); rw [← hm]; rfl), hgn⟩ : DcR w b g ({ x0.1 with view := r.1 }, r.2) _)
      rw [← HNX.out] at hgr
      obtain ⟨j0, j1, j2, j3, j4, j5, j6, j7, j8, j9, j10, j11, j12, j13, j14, j15, j16, j17, j18, j19, j20, j21, j22, j23, j24, j25, j26, j27, j28⟩ := hG5.v.cells
      have fz := hG5.v.fz
      have hl5' := hG5.v.lt
      have HGR := hide hgr
      clear hgr hgn hG5 hG hr5 ht5 cr
      go_wp2_with fail
      go_roundw
      case rel => exact ⟨j + 1, by go_num, by omega, HGR.out⟩
      case measure => simp [intOf]; omega
    · -- 115
      have hc' : ∀ W, (Instr.index 9 (.string (tx10 f)) (.int .i64 j)).run Tryz.prog W = .ok (.int .u8 115) W := hc
      clear hc
      rw [stL_115] at hnx
      have cr := xnum_tot b 4611686018427387904 x0.2 _ hG.rd (by decide)
      obtain ⟨r, hr⟩ : ∃ r, r = numS 4611686018427387904 x0.2 := ⟨_, rfl⟩
      rw [← hr] at cr hnx
      have HR := hide hr
      have HNX := hide hnx
      clear hr hnx
      go_wp2_with fail
      refine cr.mono ?_
      rintro e w6 ⟨rfl, hr5, ht5⟩
      have hG5 : DcG w w6 b r.2 g z := hG.read (s' := r.2) hwb ht5 hr5
      have hgn := hG5.setSlot hwb r.1 (by have := numS_le 4611686018427387904 x0.2; rw [← HR.out] at this; omega)
      have hgr := (⟨_, (by show _ = ({ x0.1 with slot := r.1 } : Ms); rw [← hm]; rfl), hgn⟩ : DcR w b g ({ x0.1 with slot := r.1 }, r.2) _)
      rw [← HNX.out] at hgr
      obtain ⟨j0, j1, j2, j3, j4, j5, j6, j7, j8, j9, j10, j11, j12, j13, j14, j15, j16, j17, j18, j19, j20, j21, j22, j23, j24, j25, j26, j27, j28⟩ := hG5.v.cells
      have fz := hG5.v.fz
      have hl5' := hG5.v.lt
      have HGR := hide hgr
      clear hgr hgn hG5 hG hr5 ht5 cr
      go_wp2_with fail
      go_roundw
      case rel => exact ⟨j + 1, by go_num, by omega, HGR.out⟩
      case measure => simp [intOf]; omega
    · -- 98
      have hc' : ∀ W, (Instr.index 9 (.string (tx10 f)) (.int .i64 j)).run Tryz.prog W = .ok (.int .u8 98) W := hc
      clear hc
      rw [stL_98] at hnx
      have cr := xballot_tot b x0.2 _ hG.rd
      obtain ⟨r, hr⟩ : ∃ r, r = balS x0.2 := ⟨_, rfl⟩
      rw [← hr] at cr hnx
      have HR := hide hr
      have HNX := hide hnx
      clear hr hnx
      go_wp2_with fail
      refine cr.mono ?_
      rintro e w6 ⟨rfl, hr5, ht5⟩
      have hG5 : DcG w w6 b r.2 g z := hG.read (s' := r.2) hwb ht5 hr5
      have hgn := hG5.setB hwb r.1
      have hgr := (⟨_, (by show _ = ({ x0.1 with b := r.1 } : Ms); rw [← hm]; rfl), hgn⟩ : DcR w b g ({ x0.1 with b := r.1 }, r.2) _)
      rw [← HNX.out] at hgr
      obtain ⟨j0, j1, j2, j3, j4, j5, j6, j7, j8, j9, j10, j11, j12, j13, j14, j15, j16, j17, j18, j19, j20, j21, j22, j23, j24, j25, j26, j27, j28⟩ := hG5.v.cells
      have fz := hG5.v.fz
      have hl5' := hG5.v.lt
      have HGR := hide hgr
      clear hgr hgn hG5 hG hr5 ht5 cr
      go_wp2_with fail
      go_roundw
      case rel => exact ⟨j + 1, by go_num, by omega, HGR.out⟩
      case measure => simp [intOf]; omega
    · -- 110
      have hc' : ∀ W, (Instr.index 9 (.string (tx10 f)) (.int .i64 j)).run Tryz.prog W = .ok (.int .u8 110) W := hc
      clear hc
      rw [stL_110] at hnx
      have cr := xnum_tot b 4611686018427387904 x0.2 _ hG.rd (by decide)
      obtain ⟨r, hr⟩ : ∃ r, r = numS 4611686018427387904 x0.2 := ⟨_, rfl⟩
      rw [← hr] at cr hnx
      have HR := hide hr
      have HNX := hide hnx
      clear hr hnx
      go_wp2_with fail
      refine cr.mono ?_
      rintro e w6 ⟨rfl, hr5, ht5⟩
      have hG5 : DcG w w6 b r.2 g z := hG.read (s' := r.2) hwb ht5 hr5
      have hgn := hG5.setNum hwb r.1 (by have := numS_le 4611686018427387904 x0.2; rw [← HR.out] at this; omega)
      have hgr := (⟨_, (by show _ = ({ x0.1 with num := r.1 } : Ms); rw [← hm]; rfl), hgn⟩ : DcR w b g ({ x0.1 with num := r.1 }, r.2) _)
      rw [← HNX.out] at hgr
      obtain ⟨j0, j1, j2, j3, j4, j5, j6, j7, j8, j9, j10, j11, j12, j13, j14, j15, j16, j17, j18, j19, j20, j21, j22, j23, j24, j25, j26, j27, j28⟩ := hG5.v.cells
      have fz := hG5.v.fz
      have hl5' := hG5.v.lt
      have HGR := hide hgr
      clear hgr hgn hG5 hG hr5 ht5 cr
      go_wp2_with fail
      go_roundw
      case rel => exact ⟨j + 1, by go_num, by omega, HGR.out⟩
      case measure => simp [intOf]; omega
    · -- 104
      have hc' : ∀ W, (Instr.index 9 (.string (tx10 f)) (.int .i64 j)).run Tryz.prog W = .ok (.int .u8 104) W := hc
      clear hc
      rw [stL_104] at hnx
      have cr := xnum_tot b 4 x0.2 _ hG.rd (by decide)
      obtain ⟨r, hr⟩ : ∃ r, r = numS 4 x0.2 := ⟨_, rfl⟩
      rw [← hr] at cr hnx
      have HR := hide hr
      have HNX := hide hnx
      clear hr hnx
      go_wp2_with fail
      refine cr.mono ?_
      rintro e w6 ⟨rfl, hr5, ht5⟩
      have hG5 : DcG w w6 b r.2 g z := hG.read (s' := r.2) hwb ht5 hr5
      have wr4 : IntKind.i64.wrap ((r.1 : Nat) : Int) = ((r.1 : Nat) : Int) := by have := numS_le 4 x0.2; rw [← HR.out] at this; rw [IntKind.wrap_i64]; omega
      have hgn := hG5.setHops hwb r.1 (by have := numS_le 4 x0.2; rw [← HR.out] at this; omega)
      have hgr := (⟨_, (by show _ = ({ x0.1 with hops := (r.1 : Nat) } : Ms); rw [← hm]; rfl), hgn⟩ : DcR w b g ({ x0.1 with hops := (r.1 : Nat) }, r.2) _)
      rw [← HNX.out] at hgr
      obtain ⟨j0, j1, j2, j3, j4, j5, j6, j7, j8, j9, j10, j11, j12, j13, j14, j15, j16, j17, j18, j19, j20, j21, j22, j23, j24, j25, j26, j27, j28⟩ := hG5.v.cells
      have fz := hG5.v.fz
      have hl5' := hG5.v.lt
      have HGR := hide hgr
      clear hgr hgn hG5 hG hr5 ht5 cr
      go_wp2_with fail
      go_roundw
      case rel => exact ⟨j + 1, by go_num, by omega, HGR.out⟩
      case measure => simp [intOf]; omega
    · -- 112
      have hc' : ∀ W, (Instr.index 9 (.string (tx10 f)) (.int .i64 j)).run Tryz.prog W = .ok (.int .u8 112) W := hc
      clear hc
      rw [stL_112] at hnx
      have cr := xtruth_tot b x0.2 _ hG.rd
      obtain ⟨r, hr⟩ : ∃ r, r = truS x0.2 := ⟨_, rfl⟩
      rw [← hr] at cr hnx
      obtain ⟨t, s2⟩ := r
      dsimp only at cr hnx
      have HNX := hide hnx
      clear hr hnx
      go_wp2_with fail
      refine cr.mono ?_
      rintro e w6 ⟨rfl, hr5, ht5⟩
      have hG5 : DcG w w6 b s2 g z := hG.read (s' := s2) hwb ht5 hr5
      have hgn := hG5.setHas hwb t
      obtain ⟨j0, j1, j2, j3, j4, j5, j6, j7, j8, j9, j10, j11, j12, j13, j14, j15, j16, j17, j18, j19, j20, j21, j22, j23, j24, j25, j26, j27, j28⟩ := hG5.v.cells
      have fz := hG5.v.fz
      have hl5' := hG5.v.lt
      cases t
      · have hgr := (⟨_, (by show _ = ({ x0.1 with has := false } : Ms); rw [← hm]; rfl), hgn⟩ : DcR w b g ({ x0.1 with has := false }, s2) _)
        have hnx : fold10 (f.take (j + 1)) (kindM k, s1) = ({ x0.1 with has := false }, s2) := by rw [HNX.out, if_neg (by decide)]
        rw [← hnx] at hgr
        have HGR := hide hgr
        clear hgr hgn hG5 hG hr5 ht5 cr hnx
        go_wp2_with fail
        go_roundw
        case rel => exact ⟨j + 1, by go_num, by omega, HGR.out⟩
        case measure => simp [intOf]; omega
      · have hnx : fold10 (f.take (j + 1)) (kindM k, s1) = ({ x0.1 with has := true, a := (balS s2).1, c := (cmdS (balS s2).2).1 }, (cmdS (balS s2).2).2) := by rw [HNX.out, if_pos (by decide)]
        have cb := xballot_tot b s2 _ hgn.rd
        obtain ⟨r, hr⟩ : ∃ r, r = balS s2 := ⟨_, rfl⟩
        rw [← hr] at cb hnx
        have HNX2 := hide hnx
        clear hr hnx hr5 ht5 cr hG
        go_wp2_with fail
        clear j0 j1 j2 j3 j4 j5 j6 j7 j8 j9 j10 j11 j12 j13 j14 j15 j16 j17 j18 j19 j20 j21 j22 j23 j24 j25 j26 j27 j28 fz hl5' hG5
        generalize w6.setCell ⟨g, 13, none⟩ (.bool true) = W6 at *
        refine cb.mono ?_
        rintro e w7 ⟨rfl, hr7, ht7⟩
        have hG7 := hgn.read (s' := r.2) hwb ht7 hr7
        have hga := hG7.setA hwb r.1
        obtain ⟨j0, j1, j2, j3, j4, j5, j6, j7, j8, j9, j10, j11, j12, j13, j14, j15, j16, j17, j18, j19, j20, j21, j22, j23, j24, j25, j26, j27, j28⟩ := hG7.v.cells
        have fz := hG7.v.fz
        have hl7 := hG7.v.lt
        have cc := xcmd_tot b r.2 _ hga.rd
        obtain ⟨q, hq⟩ : ∃ q, q = cmdS r.2 := ⟨_, rfl⟩
        rw [← hq] at cc
        have HQ := hide hq
        unfold CGetF at cc
        clear hq cb hgn hr7 ht7
        go_wp2_with fail
        clear j0 j1 j2 j3 j4 j5 j6 j7 j8 j9 j10 j11 j12 j13 j14 j15 j16 j17 j18 j19 j20 j21 j22 j23 j24 j25 j26 j27 j28 fz hl7 hG7
        generalize (((w7.setCell ⟨g, 10, none⟩ (.int .u32 r.1.r)).setCell ⟨g, 11, none⟩ (.int .u16 r.1.p.i)).setCell ⟨g, 12, none⟩ (.int .u32 r.1.p.k)) = W7 at *
        have hl7 := hga.v.lt
        refine cc.mono ?_
        rintro e w8 ⟨y, rfl, hy1, hy2, hy3, hy4, hr8, ht8⟩
        have hG8 := hga.read (s' := q.2) hwb ht8 hr8
        have hgc := hG8.setC hwb y (hy2.mono (by omega)) hy3 hy4
        have hgr := (⟨_, (by show _ = ({ x0.1 with has := true, a := r.1, c := q.1 } : Ms); rw [← hm, ← hy1]; rfl), hgc⟩ : DcR w b g ({ x0.1 with has := true, a := r.1, c := q.1 }, q.2) _)
        rw [show (({ x0.1 with has := true, a := r.1, c := q.1 }, q.2) : Ms × RS) = fold10 (f.take (j + 1)) (kindM k, s1) from by rw [HNX2.out, HQ.out]] at hgr
        have HGR := hide hgr
        obtain ⟨j0, j1, j2, j3, j4, j5, j6, j7, j8, j9, j10, j11, j12, j13, j14, j15, j16, j17, j18, j19, j20, j21, j22, j23, j24, j25, j26, j27, j28⟩ := hG8.v.cells
        have fz := hG8.v.fz
        have hl8 := hG8.v.lt
        clear hgr hgc hG8 hga cc hr8 ht8
        go_wp2_with fail
        go_roundw
        case rel => exact ⟨j + 1, by go_num, by omega, HGR.out⟩
        case measure => simp [intOf]; omega
    · -- 99
      have hc' : ∀ W, (Instr.index 9 (.string (tx10 f)) (.int .i64 j)).run Tryz.prog W = .ok (.int .u8 99) W := hc
      clear hc
      rw [stL_99] at hnx
      have cr := xcmd_tot b x0.2 _ hG.rd
      obtain ⟨r, hr⟩ : ∃ r, r = cmdS x0.2 := ⟨_, rfl⟩
      rw [← hr] at cr hnx
      have HR := hide hr
      have HNX := hide hnx
      clear hr hnx
      unfold CGetF at cr
      go_wp2_with fail
      refine cr.mono ?_
      rintro e w6 ⟨y, rfl, hy1, hy2, hy3, hy4, hr5, ht5⟩
      have hG5 : DcG w w6 b r.2 g z := hG.read (s' := r.2) hwb ht5 hr5
      have hgn := hG5.setC hwb y (hy2.mono (by omega)) hy3 hy4
      have hgr := (⟨_, (by show _ = ({ x0.1 with c := r.1 } : Ms); rw [← hm, ← hy1]; rfl), hgn⟩ : DcR w b g ({ x0.1 with c := r.1 }, r.2) _)
      rw [← HNX.out] at hgr
      obtain ⟨j0, j1, j2, j3, j4, j5, j6, j7, j8, j9, j10, j11, j12, j13, j14, j15, j16, j17, j18, j19, j20, j21, j22, j23, j24, j25, j26, j27, j28⟩ := hG5.v.cells
      have fz := hG5.v.fz
      have hl5' := hG5.v.lt
      have HGR := hide hgr
      clear hgr hgn hG5 hG hr5 ht5 cr
      go_wp2_with fail
      go_roundw
      case rel => exact ⟨j + 1, by go_num, by omega, HGR.out⟩
      case measure => simp [intOf]; omega
    · -- 86
      have hc' : ∀ W, (Instr.index 9 (.string (tx10 f)) (.int .i64 j)).run Tryz.prog W = .ok (.int .u8 86) W := hc
      clear hc
      rw [stL_86] at hnx
      have cr := xview_tot b x0.2 _ hG.rd
      obtain ⟨r, hr⟩ : ∃ r, r = viewS x0.2 := ⟨_, rfl⟩
      rw [← hr] at cr hnx
      have HR := hide hr
      have HNX := hide hnx
      clear hr hnx
      unfold VGetF at cr
      go_wp2_with fail
      refine cr.mono ?_
      rintro e w6 ⟨y, rfl, hy1, hy2, hy3, hy4, hr5, ht5⟩
      have hG5 : DcG w w6 b r.2 g z := hG.read (s' := r.2) hwb ht5 hr5
      have hgn := hG5.setV hwb y (hy2.mono (by omega)) hy3 hy4
      have hgr := (⟨_, (by show _ = ({ x0.1 with v := r.1 } : Ms); rw [← hm, ← hy1]; rfl), hgn⟩ : DcR w b g ({ x0.1 with v := r.1 }, r.2) _)
      rw [← HNX.out] at hgr
      obtain ⟨j0, j1, j2, j3, j4, j5, j6, j7, j8, j9, j10, j11, j12, j13, j14, j15, j16, j17, j18, j19, j20, j21, j22, j23, j24, j25, j26, j27, j28⟩ := hG5.v.cells
      have fz := hG5.v.fz
      have hl5' := hG5.v.lt
      have HGR := hide hgr
      clear hgr hgn hG5 hG hr5 ht5 cr
      go_wp2_with fail
      go_roundw
      case rel => exact ⟨j + 1, by go_num, by omega, HGR.out⟩
      case measure => simp [intOf]; omega
    · -- 121
      have hc' : ∀ W, (Instr.index 9 (.string (tx10 f)) (.int .i64 j)).run Tryz.prog W = .ok (.int .u8 121) W := hc
      clear hc
      rw [stL_121] at hnx
      have cr := xbytes_tot b 200 x0.2 _ hG.rd (by decide)
      obtain ⟨r, hr⟩ : ∃ r, r = bytS 200 x0.2 := ⟨_, rfl⟩
      rw [← hr] at cr hnx
      have HR := hide hr
      have HNX := hide hnx
      clear hr hnx
      unfold BytF at cr
      go_wp2_with fail
      refine cr.mono ?_
      rintro e w6 ⟨A5, c5, rfl, ho5, hr5, ht5⟩
      have hG5 : DcG w w6 b r.2 g z := hG.read (s' := r.2) hwb ht5 hr5
      have hl5 : r.1.length ≤ 200 := by have := bytS_le 200 x0.2; rw [← HR.out] at this; exact this
      have hgn := hG5.setD hwb A5 r.1.length c5 r.1 (ho5.mono (by omega)) (by omega)
      have hgr := (⟨_, (by show _ = ({ x0.1 with d := r.1 } : Ms); rw [← hm]; rfl), hgn⟩ : DcR w b g ({ x0.1 with d := r.1 }, r.2) _)
      rw [← HNX.out] at hgr
      obtain ⟨j0, j1, j2, j3, j4, j5, j6, j7, j8, j9, j10, j11, j12, j13, j14, j15, j16, j17, j18, j19, j20, j21, j22, j23, j24, j25, j26, j27, j28⟩ := hG5.v.cells
      have fz := hG5.v.fz
      have hl5' := hG5.v.lt
      have HGR := hide hgr
      clear hgr hgn hG5 hG hr5 ht5 cr
      go_wp2_with fail
      go_roundw
      case rel => exact ⟨j + 1, by go_num, by omega, HGR.out⟩
      case measure => simp [intOf]; omega
end Go.Proofs.YtjmkecaljkcoiaaGreatDoor
