/-
  Layer 8: views printed by the document.
-/
import Derived.Test.YtdmihbicpjmgjaaDoorQViewU
import Derived.Laws.IdiomStrings
import Derived.StillTailTactics
import Derived.Test.YtdmihbicpjmgjaaDoorQBytes1
import Derived.Test.YtdmihbicpjmgjaaDoorQViewA
import Derived.Test.YtdmihbicpjmgjaaDoorQPr
import Derived.Test.YtdmihbicpjmgjaaDoorQPut1
namespace Go.Proofs.YtdmihbicpjmgjaaDoor
open Go.RowKit Go.Maps
open Go.Lib (decDigits)
set_option linter.unusedVariables false
set_option linter.unusedSimpArgs false

theorem part_txt2 (L : List UInt8) (i k n : Nat) : (txt L ++ (⟨#[32]⟩ : ByteArray) ++ pidS i k ++ (⟨#[47]⟩ : ByteArray) ++ decS n) = txt (L ++ (32 :: (pidT i k ++ (47 :: decDigits n)))) := by
  apply ByteArray.ext
  simp [txt, pidS, decS]
set_option maxRecDepth 100000 in
set_option maxHeartbeats 4000000 in
theorem rprint8_any (x : Vw) (B : Nat) (w : World) (h : VwIn w B x) (hs : VSmall x) (hB : B ≤ w.heap.size) (hmay : MayV x.v) :
    Calls Tryd.prog 22 #[.agg #[.int .u64 (x.id : Int), .slice x.A x.m x.c, .slice x.B x.d x.e, .slice x.C x.f x.g]] w fun e w' => e = .returned (.string (txt (printL x.v))) ∧ Below w.heap.size w w' := by
  have hbz : Below w.heap.size w (w.alloc (.cells #[.int .u64 (x.id : Int), .slice x.A x.m x.c, .slice x.B x.d x.e, .slice x.C x.f x.g] 31)) := (Below.refl _ _).alloc (Nat.le_refl _) _
  have v0 := VAt.mk_ w x
  obtain ⟨j0, j1, j2, j3⟩ := v0.cells
  have cd := digits_any 19 x.id (w.alloc (.cells #[.int .u64 (x.id : Int), .slice x.A x.m x.c, .slice x.B x.d x.e, .slice x.C x.f x.g] 31)) (by have := h.hid; omega) h.hid
  go_enter Tryd.func22, Tryd.ntmps22
  go_wp2_with fail
  refine cd.mono ?_
  rintro e w2 ⟨rfl, hb1⟩
  have hb3 := hbz.trans (hb1.mono hbz.size)
  have v2 := v0.later hb1
  clear hb1 hbz v0 j0 j1 j2 j3 cd
  have hT0 : decS x.id = txt (upL x.v 0) := by
    apply ByteArray.ext
    simp [decS, txt, upL, partsL, Vw.v]
  rw [hT0]
  have hml : x.v.mem.length = x.m := h.es.len
  have hlf : ∀ p ∈ x.v.mem, lfX x.v.lvs p < 100 := fun p hp => by
    obtain ⟨h1, _⟩ := lfX_lt _ _ (hmay.lvs.has hp)
    have h2 : x.v.lvs.length ≤ x.v.mem.length := by
      have := hmay.lvs.firsts.len
      rwa [firstsP_len] at this
    have h3 := hs.m
    omega
  have hm40 := hs.m
  have hf40 := hs.f
  have hlen := upL_len (v := x.v) h.hid hlf
  have HL := hide (And.intro hmay (And.intro hlf (And.intro hlen hml)))
  clear hT0 hmay hlf hlen hml
  go_wp2_with fail
  go_loopw [3, 4] (fun s i wr => ∃ j : Nat, j ≤ x.m ∧ i = .int .i64 j ∧ s = .string (txt (upL x.v j)) ∧ VAt wr w.heap.size x ∧ Below w.heap.size w wr) (fun _ i _ => x.m - (intOf i).toNat)
  case atStart => exact ⟨0, Nat.zero_le _, rfl, rfl, v2, hb3⟩
  case round =>
    clear v2 hb3
    obtain ⟨j, hj, rfl, rfl, vr, hbr⟩ := hrel
    obtain ⟨m0, m1, m2, m3⟩ := vr.cells
    by_cases hlt : j < x.m
    · have hA := (h.below (hbr.mono hB)).es
      obtain ⟨ad, hl, hAe, _, hc⟩ := hA.at_ prOk hlt
      obtain ⟨p, hp⟩ : ∃ p, p = x.l[j] := ⟨_, rfl⟩
      have hpm : p ∈ x.v.mem := by rw [hp]; exact List.getElem_mem hl
      have hstep := upL_step (v := x.v) (j := j) (by rw [HL.out.2.2.2]; exact hlt)
      rw [show x.v.mem[j]'(by rw [HL.out.2.2.2]; exact hlt) = p from hp.symm] at hstep
      rw [← hp] at hc
      obtain ⟨c0, c1⟩ := pr_at hc
      have hk := HL.out.2.1 p hpm
      have hsz := HL.out.2.2.1 j (by rw [HL.out.2.2.2]; exact hj)
      have hlfI : lfI x.v.lvs p = (lfX x.v.lvs p : Int) := if_pos (HL.out.1.lvs.has hpm)
      have hb1 : Below wr.heap.size wr (wr.alloc (.cells #[.int .u16 (p.i : Int), .int .u32 (p.k : Int)] 25)) := (Below.refl _ _).alloc (Nat.le_refl _) _
      have hbw := hbr.trans (hb1.mono hbr.size)
      have vr1 := vr.later hb1
      have f0 : (wr.alloc (.cells #[.int .u16 (p.i : Int), .int .u32 (p.k : Int)] 25)).cell? ⟨wr.heap.size, 0, none⟩ = some (.int .u16 (p.i : Int)) := by go_simp
      have f1 : (wr.alloc (.cells #[.int .u16 (p.i : Int), .int .u32 (p.k : Int)] 25)).cell? ⟨wr.heap.size, 1, none⟩ = some (.int .u32 (p.k : Int)) := by go_simp
      clear hp hc
      go_wp2_with fail
      generalize (wr.alloc (.cells #[.int .u16 (p.i : Int), .int .u32 (p.k : Int)] 25)) = w3 at *
      have k1 := fun Z : Later w3 => calm_of (rprint_any p.i p.k Z.w p.hi p.hk)
      have k2 := fun Z : Later w3 => calm_of (rleaf_any x p B Z.w (h.below ((hbw.trans (Z.below.mono hbw.size)).mono hB)) (Nat.le_trans hB (Nat.le_trans hbw.size Z.below.size)))
      rw [hlfI] at k2
      have k3 := fun Z : Later w3 => calm_of (dig16 (lfX x.v.lvs p) Z.w (by omega))
      have hw6 : IntKind.u64.wrap (lfX x.v.lvs p : Int) = (lfX x.v.lvs p : Int) := by rw [IntKind.wrap_u64]; omega
      have hE := part_txt2 (upL x.v j) p.i p.k (lfX x.v.lvs p)
      have hsp := pidS_size p.i p.k p.hi p.hk
      have hsd : (decS (lfX x.v.lvs p)).size ≤ 20 := by
        show (decDigits (lfX x.v.lvs p)).toArray.size ≤ 20
        have := dec_len (lfX x.v.lvs p) 1 (by omega)
        simp
        omega
      have hst : (txt (upL x.v j)).size ≤ 1000 := by rw [txt_size]; omega
      have HE := hide (And.intro hE hstep)
      obtain ⟨q0, q1, q2, q3⟩ := vr1.cells
      have g0 := Later.cell f0
      have g1 := Later.cell f1
      have g2 := Later.cell q0
      have g3 := Later.cell q1
      have g4 := Later.cell q2
      have g5 := Later.cell q3
      clear hE hstep f0 f1 q0 q1 q2 q3 m0 m1 m2 m3 hlfI hAe
      generalize pidS p.i p.k = ps at *
      generalize decS (lfX x.v.lvs p) = ds at *
      generalize txt (upL x.v j) = tj at *
      refine wp_region_calm (by kernel_rfl) (by kernel_rfl) ?_
      repeat (go_big_quiet_step (first | (go_at_call 19; with_reducible exact k1 _) | (go_at_call 38; with_reducible exact k2 _) | (go_at_call 20; with_reducible exact k3 _)))
      refine wpQuiet_nil ?_
      rintro _ ⟨x9, rfl⟩
      have hb9 := x9.below
      generalize x9.w = w9 at hb9 ⊢
      have hb10 := hbw.trans (hb9.mono hbw.size)
      have vr9 := vr1.later hb9
      have r0 := cellL (g0 ⟨w3, Below.refl _ _⟩) hb9
      have r1 := cellL (g1 ⟨w3, Below.refl _ _⟩) hb9
      obtain ⟨s0, s1, s2, s3⟩ := vr9.cells
      have cl := rat_any x.C x.f x.g x.r B p w9 (h.below (hb10.mono hB)).dr (Nat.le_trans hB hb10.size) (by unfold maxLen; omega)
      have hq := HE.out.1
      obtain ⟨tx, htx⟩ : ∃ tx : ByteArray, tx = tj ++ (⟨#[32]⟩ : ByteArray) ++ ps ++ (⟨#[47]⟩ : ByteArray) ++ ds := ⟨_, rfl⟩
      rw [← htx] at hq
      clear g0 g1 g2 g3 g4 g5 k1 k2 k3 vr1 hb9 hbw vr hbr hb1 hsp hsd c0 c1
      by_cases hld : p ∈ x.r
      · rw [atI_in hld] at cl
        have e9 : upL x.v (j + 1) = upL x.v j ++ (32 :: (pidT p.i p.k ++ (47 :: decDigits (lfX x.v.lvs p)))) ++ [42] := by
          rw [HE.out.2]
          unfold partL
          rw [if_pos (show p ∈ x.v.ldr from hld)]
          simp
        have h9 : tx ++ (⟨#[42]⟩ : ByteArray) = txt (upL x.v (j + 1)) := by rw [e9, ← part_star, hq]
        have htz : tx.size ≤ 2000 := by
          rw [hq, txt_size]
          have := HL.out.2.2.1 (j + 1) (by rw [HL.out.2.2.2]; exact hlt)
          rw [e9, List.length_append] at this
          omega
        have HT := hide h9
        clear hq h9 e9 hld hst
        rw [← htx]
        clear htx
        go_wp2_with fail
        refine cl.mono ?_
        rintro e w10 ⟨rfl, hb11⟩
        have hb12 := hb10.trans (hb11.mono hb10.size)
        have vr10 := vr9.later hb11
        clear r0 r1 s0 s1 s2 s3 cl vr9 hb11 hb10
        go_wp2_with fail
        go_roundw
        case rel => exact ⟨j + 1, by omega, by go_num, by rw [HT.out], vr10, hb12⟩
        case measure => simp [RowKit.intOf]; omega
      · rw [atI_no hld] at cl
        have e9 : upL x.v (j + 1) = upL x.v j ++ (32 :: (pidT p.i p.k ++ (47 :: decDigits (lfX x.v.lvs p)))) := by
          rw [HE.out.2]
          unfold partL
          rw [if_neg (show ¬ p ∈ x.v.ldr from hld)]
          simp
        have h9 : tx = txt (upL x.v (j + 1)) := by rw [e9, hq]
        have HT := hide h9
        clear hq h9 e9 hld hst
        rw [← htx]
        clear htx
        go_wp2_with fail
        refine cl.mono ?_
        rintro e w10 ⟨rfl, hb11⟩
        have hb12 := hb10.trans (hb11.mono hb10.size)
        have vr10 := vr9.later hb11
        clear r0 r1 s0 s1 s2 s3 cl vr9 hb11 hb10
        go_wp2_with fail
        go_roundw
        case rel => exact ⟨j + 1, by omega, by go_num, by rw [HT.out], vr10, hb12⟩
        case measure => simp [RowKit.intOf]; omega
    · have e9 : txt (upL x.v j) = txt (printL x.v) := by
        unfold upL printL
        rw [List.take_of_length_le (by rw [HL.out.2.2.2]; omega)]
      rw [e9]
      clear e9
      go_wp2
      go_ret
      exact ⟨rfl, hbr⟩
end Go.Proofs.YtdmihbicpjmgjaaDoor
namespace Go.Proofs.YtdmihbicpjmgjaaDoor
open Go.RowKit
set_option linter.unusedVariables false

def tabL : List UInt8 := [48, 49, 50, 51, 52, 53, 54, 55, 56, 57, 97, 98, 99, 100, 101, 102]
theorem tabL_at : ∀ n, n < 16 → tabL[n]? = some (hexD n) := by decide
theorem idx_tab (k : Int) (n : Nat) (hk : k = (n : Int)) (hn : n < 16) (w : World) :
    (Instr.index 9 (.string ⟨#[48, 49, 50, 51, 52, 53, 54, 55, 56, 57, 97, 98, 99, 100, 101, 102]⟩) (.int .u8 k)).run Tryd.prog w = .ok (.int .u8 ((hexD n).toNat : Int)) w := by
  subst hk
  have hs : (ByteArray.mk #[48, 49, 50, 51, 52, 53, 54, 55, 56, 57, 97, 98, 99, 100, 101, 102]).size = 16 := rfl
  rw [run_index_string w 9 _ .u8 _ Tryd.underlying9, dif_pos ⟨by omega, by rw [hs]; omega⟩]
  congr 3
  have h1 := tabL_at n hn
  have h2 : tabL[n]? = some ((ByteArray.mk #[48, 49, 50, 51, 52, 53, 54, 55, 56, 57, 97, 98, 99, 100, 101, 102])[n]'(by rw [hs]; exact hn)) := by
    rw [List.getElem?_eq_getElem (by exact hn)]; rfl
  rw [h2] at h1
  injection h1 with h1
  simp only [Int.toNat_natCast]
  rw [h1]
theorem sl_tab (k k1 : Int) (n : Nat) (hk : k = (n : Int)) (hk1 : k1 = (n : Int) + 1) (hn : n < 16) (w : World) :
    (Instr.slice 9 (.string ⟨#[48, 49, 50, 51, 52, 53, 54, 55, 56, 57, 97, 98, 99, 100, 101, 102]⟩) (some (.int .u8 k)) (some (.int .u8 k1)) none).run Tryd.prog w = .ok (.string ⟨#[hexD n]⟩) w := by
  subst hk; subst hk1
  have hs : (ByteArray.mk #[48, 49, 50, 51, 52, 53, 54, 55, 56, 57, 97, 98, 99, 100, 101, 102]).size = 16 := rfl
  rw [run_slice_string w 9 _ .u8 .u8 _ _ Tryd.underlying9 (by omega) (by omega) (by rw [hs]; omega)]
  congr 2
  have h : ∀ n, n < 16 → (tabL.drop n).take (n + 1 - n) = [hexD n] := by decide
  have := ByteArray.extract_mk tabL n (n + 1)
  rw [h n hn] at this
  exact this

def digI (c : UInt8) : Int := match digV c with | some k => (k : Int) | none => -1
theorem digI_some {c : UInt8} {k : Nat} (h : digV c = some k) : digI c = (k : Int) := by simp [digI, h]
theorem digI_none {c : UInt8} (h : digV c = none) : digI c = -1 := by simp [digI, h]

def digN (c : UInt8) : Nat := match digV c with | some k => k | none => 0
def digB (c : UInt8) : Bool := match digV c with | some _ => true | none => false
theorem digN_some {c : UInt8} {k : Nat} (h : digV c = some k) : digN c = k := by simp [digN, h]
theorem digB_some {c : UInt8} {k : Nat} (h : digV c = some k) : digB c = true := by simp [digB, h]
theorem digB_none {c : UInt8} (h : digV c = none) : digB c = false := by simp [digB, h]
theorem ret_nb' {k : IntKind} {a a' : Int} {b b' : Bool} (h : a = a') (h2 : b = b') : Ending.returned (.tuple #[.int k a, .bool b]) = .returned (.tuple #[.int k a', .bool b']) := by rw [h, h2]

end Go.Proofs.YtdmihbicpjmgjaaDoor
namespace Go.Proofs.YtdmihbicpjmgjaaDoor
open Go.RowKit
set_option linter.unusedVariables false

/-- A row that is filled from its head on: k of M's bytes stand. -/
def fillT (M : List UInt8) (k : Nat) : List Value := bvs (M.take k) ++ zeroBytes (M.length - k)
theorem fillT_zero (M : List UInt8) : fillT M 0 = zeroBytes M.length := by simp [fillT, bvs]
theorem fillT_full (M : List UInt8) : fillT M M.length = bvs M := by simp [fillT, zeroBytes]
theorem fillT_len (M : List UInt8) (k : Nat) (h : k ≤ M.length) : (fillT M k).length = M.length := by simp [fillT, bvs_len, zeroBytes_len]; omega
theorem fillT_at (M : List UInt8) (k : Nat) (h : k < M.length) : (fillT M k)[k]? = some (.int .u8 0) := by
  rw [fillT, List.getElem?_append_right (by rw [bvs_len]; simp; omega), bvs_len, List.length_take, Nat.min_eq_left (by omega), Nat.sub_self, zeroBytes]
  rw [List.getElem?_replicate, if_pos (by omega)]
theorem fillT_step (M : List UInt8) (k : Nat) (h : k < M.length) : (fillT M k).set k (byteV M[k]) = fillT M (k + 1) := by
  have e1 : (bvs (M.take k)).length = k := by rw [bvs_len]; simp; omega
  have e2 : M.length - k = (M.length - (k + 1)) + 1 := by omega
  rw [fillT, fillT, List.set_append_right _ _ (by omega), e1, Nat.sub_self, e2, zeroBytes, List.replicate_succ, List.set_cons_zero, take_snoc h, bvs_snoc, List.append_assoc]
  rfl
/-- A row that is filled from its end: M's bytes stand from place k on. -/
def backT (M : List UInt8) (k : Nat) : List Value := zeroBytes k ++ bvs (M.drop k)
theorem backT_full (M : List UInt8) : backT M M.length = zeroBytes M.length := by simp [backT, bvs]
theorem backT_zero (M : List UInt8) : backT M 0 = bvs M := by simp [backT, zeroBytes]
theorem backT_len (M : List UInt8) (k : Nat) (h : k ≤ M.length) : (backT M k).length = M.length := by simp [backT, bvs_len, zeroBytes_len]; omega
theorem backT_at (M : List UInt8) (k : Nat) (h : k < M.length) : (backT M (k + 1))[k]? = some (.int .u8 0) := by
  rw [backT, List.getElem?_append_left (by rw [zeroBytes_len]; omega), zeroBytes, List.getElem?_replicate, if_pos (by omega)]
theorem backT_step (M : List UInt8) (k : Nat) (h : k < M.length) : (backT M (k + 1)).set k (byteV M[k]) = backT M k := by
  have e : (zeroBytes (k + 1)).set k (byteV M[k]) = zeroBytes k ++ [byteV M[k]] := by
    rw [zeroBytes, List.replicate_succ', List.set_append_right _ _ (by simp)]
    simp [zeroBytes]
  rw [backT, backT, List.set_append_left _ _ (by rw [zeroBytes_len]; omega), e, List.drop_eq_getElem_cons h, List.append_assoc]
  rfl

/-- The block g is just these cells. -/
def BlkB (w : World) (g : Nat) (cs : List Value) : Prop := w.heap[g]? = some (.cells cs.toArray 5 (0, 0))
section
variable {w w' : World} {g : Nat} {cs : List Value}
theorem BlkB.lt (h : BlkB w g cs) : g < w.heap.size := lt_of_heap h
theorem BlkB.cell (h : BlkB w g cs) (i : Nat) : w.cell? ⟨g, i, none⟩ = cs[i]? := by
  have := cell_of_row w g i cs.toArray _ (0, 0) h
  simpa using this
theorem BlkB.frozen (h : BlkB w g cs) (i : Nat) : w.frozen? ⟨g, i, none⟩ = false := frozen_of_row w g i _ _ h
theorem BlkB.new (w : World) (cs : List Value) : BlkB (w.alloc (.cells cs.toArray 5)) w.heap.size cs := heap_alloc_new w _
theorem BlkB.drewN (h : BlkB w g cs) (k : Nat) : BlkB (w.drewN k) g cs := h
theorem BlkB.alloc (h : BlkB w g cs) (o : Obj) : BlkB (w.alloc o) g cs := (Below.heap_alloc w o g h.lt).trans h
theorem BlkB.set_ (h : BlkB w g cs) (i : Nat) (u : Value) : BlkB (w.setCell ⟨g, i, none⟩ u) g (cs.set i u) := by
  have := heap_setCell_same w g i cs.toArray _ u h
  unfold BlkB
  rw [this]; simp
theorem BlkB.below {B : Nat} (h : BlkB w g cs) (hb : Below B w w') (hg : g < B) : BlkB w' g cs := (hb.block g hg).trans h
theorem BlkB.later (h : BlkB w g cs) (hb : Below w.heap.size w w') : BlkB w' g cs := h.below hb h.lt
theorem BlkB.own {base n c : Nat} {l : List UInt8} (h : BlkB w g cs) (hb : base ≤ g) (hn : n ≤ c) (hc : c ≤ maxLen) (hl : cs.length = c) (ht : cs.take n = bvs l) (hln : l.length = n) : OwnB w base (.slice (some ⟨g, 0, none⟩) n c) n l :=
  own_of_cells h hb hn hc hl (by rw [bvs_len]; exact hln) ht
end

/-- Lent bytes: l, and eight marks behind. -/
def lentL (l : List UInt8) : List UInt8 := l ++ List.replicate 8 165
theorem lentL_len (l : List UInt8) : (lentL l).length = l.length + 8 := by simp [lentL]
theorem lentL_lo {l : List UInt8} {k : Nat} (h : k < l.length) (h' : k < (lentL l).length) : (lentL l)[k] = l[k] := by simp [lentL, List.getElem_append_left, h]
theorem lentL_hi {l : List UInt8} {k : Nat} (h : l.length ≤ k) (h' : k < (lentL l).length) : (lentL l)[k] = 165 := by
  simp only [lentL]
  rw [List.getElem_append_right h, List.getElem_replicate]
def LentB (w : World) (g : Nat) (l : List UInt8) : Prop := BlkB w g (bvs (lentL l))
theorem LentB.own {w : World} {g n base : Nat} {l : List UInt8} (h : LentB w g l) (hb : base ≤ g) (hn : l.length = n) (hm : n ≤ 140737488355328) : OwnB w base (.slice (some ⟨g, 0, none⟩) n (n + 8)) n l := by
  refine BlkB.own h hb (by omega) (by unfold maxLen; omega) (by rw [bvs_len, lentL_len]; omega) ?_ hn
  rw [lentL, bvs_append, List.take_append_of_le_length (by rw [bvs_len]; omega), List.take_of_length_le (by rw [bvs_len]; omega)]
theorem LentB.bs {w : World} {g n : Nat} {l : List UInt8} (h : LentB w g l) (hn : l.length = n) (hm : n ≤ 140737488355328) : Bs w w.heap.size (some ⟨g, 0, none⟩) n l := (h.own (Nat.zero_le _) hn hm).bs

theorem formL_at (x W k : Nat) (h : k < (formL x W).length) : (formL x W)[k] = lowB (x / 2 ^ (8 * (W - 1 - k))) := by
  simp [formL, formT]

end Go.Proofs.YtdmihbicpjmgjaaDoor
