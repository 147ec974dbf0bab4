import Derived.Test.YtjmkecaljkcoiaaGreatDoorQViewU
import Derived.Laws.IdiomStrings
import Derived.StillTailTactics
import Derived.Test.YtjmkecaljkcoiaaGreatDoorQBytes1
import Derived.Test.YtjmkecaljkcoiaaGreatDoorQCmdT
import Derived.Test.YtjmkecaljkcoiaaGreatDoorQSortM
import Derived.Test.YtjmkecaljkcoiaaGreatDoorQGet1
import Derived.Laws.BytesArg
namespace Go.Proofs.YtjmkecaljkcoiaaGreatDoor
open Go.RowKit Go.Maps
open Go.Lib (decDigits)
set_option linter.unusedVariables false
set_option linter.unusedSimpArgs false
theorem part_txt2 (L : List UInt8) (i k n : Nat) : (txt L ++ (⟨#[32]⟩ : ByteArray) ++ pidS i k ++ (⟨#[47]⟩ : ByteArray) ++ decS n) = txt (L ++ (32 :: (pidT i k ++ (47 :: decDigits n)))) := by
  apply ByteArray.ext
  simp [txt, pidS, decS]
set_option maxRecDepth 100000 in
set_option maxHeartbeats 4000000 in
theorem rprint8_any (x : Vw) (B : Nat) (w : World) (h : VwIn w B x) (hs : VSmall x) (hB : B ≤ w.heap.size) (hmay : MayV x.v) :
    Calls Tryz.prog 13 #[.agg #[.int .u64 x.id, .slice x.A x.m x.c, .slice x.B x.d x.e, .slice x.C x.f x.g]] w fun e w' => e = .returned (.string (txt (printL x.v))) ∧ Below w.heap.size w w' := by
  have hbz : Below w.heap.size w (w.alloc (.cells #[.int .u64 x.id, .slice x.A x.m x.c, .slice x.B x.d x.e, .slice x.C x.f x.g] 26)) := (Below.refl _ _).alloc (Nat.le_refl _) _
  have v0 := VAt.mk_ w x
  obtain ⟨j0, j1, j2, j3⟩ := v0.cells
  have cd := digits_any 19 x.id (w.alloc (.cells #[.int .u64 x.id, .slice x.A x.m x.c, .slice x.B x.d x.e, .slice x.C x.f x.g] 26)) (by have := h.hid; omega) h.hid
  go_enter Tryz.func13, Tryz.ntmps13
  go_wp2_with fail
  refine cd.mono ?_
  rintro e w2 ⟨rfl, hb1⟩
  have hb3 := hbz.trans (hb1.mono hbz.size)
  have v2 := v0.later hb1
  clear hb1 hbz v0 j0 j1 j2 j3 cd
  have hT0 : decS x.id = txt (upL x.v 0) := by
    apply ByteArray.ext
    simp [decS, txt, upL, partsL, Vw.v]
  rw [hT0]
  have hml : x.v.mem.length = x.m := h.es.len
  have hlf : ∀ p ∈ x.v.mem, lfX x.v.lvs p < 100 := fun p hp => by
    obtain ⟨h1, _⟩ := lfX_lt _ _ (hmay.lvs.has hp)
    have h2 : x.v.lvs.length ≤ x.v.mem.length := by
      have := hmay.lvs.firsts.len
      rwa [firstsP_len] at this
    have h3 := hs.m
    omega
  have hm40 := hs.m
  have hf40 := hs.f
  have hlen := upL_len (v := x.v) h.hid hlf
  have HL := hide (And.intro hmay (And.intro hlf (And.intro hlen hml)))
  clear hT0 hmay hlf hlen hml
  go_wp2_with fail
  go_loopw [3, 4] (fun s i wr => ∃ j : Nat, j ≤ x.m ∧ i = .int .i64 j ∧ s = .string (txt (upL x.v j)) ∧ VAt wr w.heap.size x ∧ Below w.heap.size w wr) (fun _ i _ => x.m - (intOf i).toNat)
  case atStart => exact ⟨0, Nat.zero_le _, rfl, rfl, v2, hb3⟩
  case round =>
    clear v2 hb3
    obtain ⟨j, hj, rfl, rfl, vr, hbr⟩ := hrel
    obtain ⟨m0, m1, m2, m3⟩ := vr.cells
    by_cases hlt : j < x.m
    · have hA := (h.below (hbr.mono hB)).es
      obtain ⟨ad, hl, hAe, _, hc⟩ := hA.at_ prOk hlt
      obtain ⟨p, hp⟩ : ∃ p, p = x.l[j] := ⟨_, rfl⟩
      have hpm : p ∈ x.v.mem := by rw [hp]; exact List.getElem_mem hl
      have hstep := upL_step (v := x.v) (j := j) (by rw [HL.out.2.2.2]; exact hlt)
      rw [show x.v.mem[j]'(by rw [HL.out.2.2.2]; exact hlt) = p from hp.symm] at hstep
      rw [← hp] at hc
      obtain ⟨c0, c1⟩ := pr_at hc
      have hk := HL.out.2.1 p hpm
      have hsz := HL.out.2.2.1 j (by rw [HL.out.2.2.2]; exact hj)
      have hlfI : lfI x.v.lvs p = (lfX x.v.lvs p : Int) := if_pos (HL.out.1.lvs.has hpm)
      have hb1 : Below wr.heap.size wr (wr.alloc (.cells #[.int .u16 p.i, .int .u32 p.k] 44)) := (Below.refl _ _).alloc (Nat.le_refl _) _
      have hbw := hbr.trans (hb1.mono hbr.size)
      have vr1 := vr.later hb1
      have f0 : (wr.alloc (.cells #[.int .u16 p.i, .int .u32 p.k] 44)).cell? ⟨wr.heap.size, 0, none⟩ = some (.int .u16 p.i) := by go_simp
      have f1 : (wr.alloc (.cells #[.int .u16 p.i, .int .u32 p.k] 44)).cell? ⟨wr.heap.size, 1, none⟩ = some (.int .u32 p.k) := by go_simp
      clear hp hc
      go_wp2_with fail
      generalize (wr.alloc (.cells #[.int .u16 p.i, .int .u32 p.k] 44)) = w3 at *
      have k1 := fun Z : Later w3 => calm_of (rprint_any p.i p.k Z.w p.hi p.hk)
      have k2 := fun Z : Later w3 => calm_of (rleaf_any x p B Z.w (h.below ((hbw.trans (Z.below.mono hbw.size)).mono hB)) (Nat.le_trans hB (Nat.le_trans hbw.size Z.below.size)))
      rw [hlfI] at k2
      have k3 := fun Z : Later w3 => calm_of (dig16 (lfX x.v.lvs p) Z.w (by omega))
      have hw6 : IntKind.u64.wrap (lfX x.v.lvs p : Int) = (lfX x.v.lvs p : Int) := by rw [IntKind.wrap_u64]; omega
      have hE := part_txt2 (upL x.v j) p.i p.k (lfX x.v.lvs p)
      have hsp := pidS_size p.i p.k p.hi p.hk
      have hsd : (decS (lfX x.v.lvs p)).size ≤ 20 := by
        show (decDigits (lfX x.v.lvs p)).toArray.size ≤ 20
        have := dec_len (lfX x.v.lvs p) 1 (by omega)
        simp
        omega
      have hst : (txt (upL x.v j)).size ≤ 1000 := by rw [txt_size]; omega
      have HE := hide (And.intro hE hstep)
      obtain ⟨q0, q1, q2, q3⟩ := vr1.cells
      have g0 := Later.cell f0
      have g1 := Later.cell f1
      have g2 := Later.cell q0
      have g3 := Later.cell q1
      have g4 := Later.cell q2
      have g5 := Later.cell q3
      clear hE hstep f0 f1 q0 q1 q2 q3 m0 m1 m2 m3 hlfI hAe
      generalize pidS p.i p.k = ps at *
      generalize decS (lfX x.v.lvs p) = ds at *
      generalize txt (upL x.v j) = tj at *
      refine wp_region_calm (by kernel_rfl) (by kernel_rfl) ?_
      repeat (go_big_quiet_step (first | (go_at_call 44; with_reducible exact k1 _) | (go_at_call 45; with_reducible exact k2 _) | (go_at_call 43; with_reducible exact k3 _)))
      refine wpQuiet_nil ?_
      rintro _ ⟨x9, rfl⟩
      have hb9 := x9.below
      generalize x9.w = w9 at hb9 ⊢
      have hb10 := hbw.trans (hb9.mono hbw.size)
      have vr9 := vr1.later hb9
      have r0 := cellL (g0 ⟨w3, Below.refl _ _⟩) hb9
      have r1 := cellL (g1 ⟨w3, Below.refl _ _⟩) hb9
      obtain ⟨s0, s1, s2, s3⟩ := vr9.cells
      have cl := rat_any x.C x.f x.g x.r B p w9 (h.below (hb10.mono hB)).dr (Nat.le_trans hB hb10.size) (by unfold maxLen; omega)
      have hq := HE.out.1
      obtain ⟨tx, htx⟩ : ∃ tx : ByteArray, tx = tj ++ (⟨#[32]⟩ : ByteArray) ++ ps ++ (⟨#[47]⟩ : ByteArray) ++ ds := ⟨_, rfl⟩
      rw [← htx] at hq
      clear g0 g1 g2 g3 g4 g5 k1 k2 k3 vr1 hb9 hbw vr hbr hb1 hsp hsd c0 c1
      by_cases hld : p ∈ x.r
      · rw [atI_in hld] at cl
        have e9 : upL x.v (j + 1) = upL x.v j ++ (32 :: (pidT p.i p.k ++ (47 :: decDigits (lfX x.v.lvs p)))) ++ [42] := by
          rw [HE.out.2]
          unfold partL
          rw [if_pos (show p ∈ x.v.ldr from hld)]
          simp
        have h9 : tx ++ (⟨#[42]⟩ : ByteArray) = txt (upL x.v (j + 1)) := by rw [e9, ← part_star, hq]
        have htz : tx.size ≤ 2000 := by
          rw [hq, txt_size]
          have := HL.out.2.2.1 (j + 1) (by rw [HL.out.2.2.2]; exact hlt)
          rw [e9, List.length_append] at this
          omega
        have HT := hide h9
        clear hq h9 e9 hld hst
        rw [← htx]
        clear htx
        go_wp2_with fail
        refine cl.mono ?_
        rintro e w10 ⟨rfl, hb11⟩
        have hb12 := hb10.trans (hb11.mono hb10.size)
        have vr10 := vr9.later hb11
        clear r0 r1 s0 s1 s2 s3 cl vr9 hb11 hb10
        go_wp2_with fail
        go_roundw
        case rel => exact ⟨j + 1, by omega, by go_num, by rw [HT.out], vr10, hb12⟩
        case measure => simp [RowKit.intOf]; omega
      · rw [atI_no hld] at cl
        have e9 : upL x.v (j + 1) = upL x.v j ++ (32 :: (pidT p.i p.k ++ (47 :: decDigits (lfX x.v.lvs p)))) := by
          rw [HE.out.2]
          unfold partL
          rw [if_neg (show ¬ p ∈ x.v.ldr from hld)]
          simp
        have h9 : tx = txt (upL x.v (j + 1)) := by rw [e9, hq]
        have HT := hide h9
        clear hq h9 e9 hld hst
        rw [← htx]
        clear htx
        go_wp2_with fail
        refine cl.mono ?_
        rintro e w10 ⟨rfl, hb11⟩
        have hb12 := hb10.trans (hb11.mono hb10.size)
        have vr10 := vr9.later hb11
        clear r0 r1 s0 s1 s2 s3 cl vr9 hb11 hb10
        go_wp2_with fail
        go_roundw
        case rel => exact ⟨j + 1, by omega, by go_num, by rw [HT.out], vr10, hb12⟩
        case measure => simp [RowKit.intOf]; omega
    · have e9 : txt (upL x.v j) = txt (printL x.v) := by
        unfold upL printL
        rw [List.take_of_length_le (by rw [HL.out.2.2.2]; omega)]
      rw [e9]
      clear e9
      go_wp2
      go_ret
      exact ⟨rfl, hbr⟩
end Go.Proofs.YtjmkecaljkcoiaaGreatDoor
namespace Go.Proofs.YtjmkecaljkcoiaaGreatDoor
open Go.RowKit
set_option linter.unusedVariables false
def tabL : List UInt8 := [48, 49, 50, 51, 52, 53, 54, 55, 56, 57, 97, 98, 99, 100, 101, 102]
theorem tabL_at : ∀ n, n < 16 → tabL[n]? = some (hexD n) := by decide
theorem idx_tab (k : Int) (n : Nat) (hk : k = (n : Int)) (hn : n < 16) (w : World) :
    (Instr.index 9 (.string ⟨#[48, 49, 50, 51, 52, 53, 54, 55, 56, 57, 97, 98, 99, 100, 101, 102]⟩) (.int .u8 k)).run Tryz.prog w = .ok (.int .u8 ((hexD n).toNat : Int)) w := by
  subst hk
  have hs : (ByteArray.mk #[48, 49, 50, 51, 52, 53, 54, 55, 56, 57, 97, 98, 99, 100, 101, 102]).size = 16 := rfl
  rw [run_index_string w 9 _ .u8 _ Tryz.underlying9, dif_pos ⟨by omega, by rw [hs]; omega⟩]
  congr 3
  have h1 := tabL_at n hn
  have h2 : tabL[n]? = some ((ByteArray.mk #[48, 49, 50, 51, 52, 53, 54, 55, 56, 57, 97, 98, 99, 100, 101, 102])[n]'(by rw [hs]; exact hn)) := by
    rw [List.getElem?_eq_getElem (by exact hn)]; rfl
  rw [h2] at h1
  injection h1 with h1
  simp only [Int.toNat_natCast]
  rw [h1]
theorem sl_tab (k k1 : Int) (n : Nat) (hk : k = (n : Int)) (hk1 : k1 = (n : Int) + 1) (hn : n < 16) (w : World) :
    (Instr.slice 9 (.string ⟨#[48, 49, 50, 51, 52, 53, 54, 55, 56, 57, 97, 98, 99, 100, 101, 102]⟩) (some (.int .u8 k)) (some (.int .u8 k1)) none).run Tryz.prog w = .ok (.string ⟨#[hexD n]⟩) w := by
  subst hk; subst hk1
  have hs : (ByteArray.mk #[48, 49, 50, 51, 52, 53, 54, 55, 56, 57, 97, 98, 99, 100, 101, 102]).size = 16 := rfl
  rw [run_slice_string w 9 _ .u8 .u8 _ _ Tryz.underlying9 (by omega) (by omega) (by rw [hs]; omega)]
  congr 2
  have h : ∀ n, n < 16 → (tabL.drop n).take (n + 1 - n) = [hexD n] := by decide
  have := ByteArray.extract_mk tabL n (n + 1)
  rw [h n hn] at this
  exact this
def digI (c : UInt8) : Int := match digV c with | some k => (k : Int) | none => -1
def digN (c : UInt8) : Nat := match digV c with | some k => k | none => 0
def digB (c : UInt8) : Bool := match digV c with | some _ => true | none => false
end Go.Proofs.YtjmkecaljkcoiaaGreatDoor
namespace Go.Proofs.YtjmkecaljkcoiaaGreatDoor
open Go.RowKit
set_option linter.unusedVariables false
def fillT (M : List UInt8) (k : Nat) : List Value := bvs (M.take k) ++ zeroBytes (M.length - k)
def backT (M : List UInt8) (k : Nat) : List Value := zeroBytes k ++ bvs (M.drop k)
def BlkB (w : World) (g : Nat) (cs : List Value) : Prop := w.heap[g]? = some (.cells cs.toArray 5 (0, 0))
section
variable {w w' : World} {g : Nat} {cs : List Value}
theorem BlkB.lt (h : BlkB w g cs) : g < w.heap.size := lt_of_heap h
theorem BlkB.cell (h : BlkB w g cs) (i : Nat) : w.cell? ⟨g, i, none⟩ = cs[i]? := by
  have := cell_of_row w g i cs.toArray _ (0, 0) h
  simpa using this
theorem BlkB.frozen (h : BlkB w g cs) (i : Nat) : w.frozen? ⟨g, i, none⟩ = false := frozen_of_row w g i _ _ h
theorem BlkB.new (w : World) (cs : List Value) : BlkB (w.alloc (.cells cs.toArray 5)) w.heap.size cs := heap_alloc_new w _
theorem BlkB.drewN (h : BlkB w g cs) (k : Nat) : BlkB (w.drewN k) g cs := h
theorem BlkB.alloc (h : BlkB w g cs) (o : Obj) : BlkB (w.alloc o) g cs := (Below.heap_alloc w o g h.lt).trans h
theorem BlkB.set_ (h : BlkB w g cs) (i : Nat) (u : Value) : BlkB (w.setCell ⟨g, i, none⟩ u) g (cs.set i u) := by
  have := heap_setCell_same w g i cs.toArray _ u h
  unfold BlkB
  rw [this]; simp
theorem BlkB.below {B : Nat} (h : BlkB w g cs) (hb : Below B w w') (hg : g < B) : BlkB w' g cs := (hb.block g hg).trans h
theorem BlkB.later (h : BlkB w g cs) (hb : Below w.heap.size w w') : BlkB w' g cs := h.below hb h.lt
theorem BlkB.own {base n c : Nat} {l : List UInt8} (h : BlkB w g cs) (hb : base ≤ g) (hn : n ≤ c) (hc : c ≤ maxLen) (hl : cs.length = c) (ht : cs.take n = bvs l) (hln : l.length = n) : OwnB w base (.slice (some ⟨g, 0, none⟩) n c) n l :=
  own_of_cells h hb hn hc hl (by rw [bvs_len]; exact hln) ht
end
def lentL (l : List UInt8) : List UInt8 := l ++ List.replicate 8 165
theorem lentL_len (l : List UInt8) : (lentL l).length = l.length + 8 := by simp [lentL]
def LentB (w : World) (g : Nat) (l : List UInt8) : Prop := BlkB w g (bvs (lentL l))
theorem LentB.own {w : World} {g n base : Nat} {l : List UInt8} (h : LentB w g l) (hb : base ≤ g) (hn : l.length = n) (hm : n ≤ 140737488355328) : OwnB w base (.slice (some ⟨g, 0, none⟩) n (n + 8)) n l := by
  refine BlkB.own h hb (by omega) (by unfold maxLen; omega) (by rw [bvs_len, lentL_len]; omega) ?_ hn
  rw [lentL, bvs_append, List.take_append_of_le_length (by rw [bvs_len]; omega), List.take_of_length_le (by rw [bvs_len]; omega)]
theorem LentB.bs {w : World} {g n : Nat} {l : List UInt8} (h : LentB w g l) (hn : l.length = n) (hm : n ≤ 140737488355328) : Bs w w.heap.size (some ⟨g, 0, none⟩) n l := (h.own (Nat.zero_le _) hn hm).bs
end Go.Proofs.YtjmkecaljkcoiaaGreatDoor
namespace Go.Proofs.YtjmkecaljkcoiaaGreatDoor
open Go.RowKit
set_option linter.unusedVariables false
set_option maxRecDepth 100000 in
theorem conv_own {w : World} {base q c : Nat} {A : Option Addr} {l : List UInt8} (h : OwnB w base (.slice A q c) q l) :
    (convert 39 9 (.slice A q c)).run Tryz.prog w = .ok (.string ⟨l.toArray⟩) w := by
  have hl := h.len
  rcases h.2 with ⟨hv, h0⟩ | ⟨g, cap, cur, hv, _⟩
  · injection hv with h1 h2 h3
    subst h1; subst h3
    subst h0
    obtain rfl := List.eq_nil_of_length_eq_zero hl
    exact run_convert_bytes_nil w 39 5 Tryz.underlying39 Tryz.underlying5 0 0 9 Tryz.underlying9
  · injection hv with h1 h2 h3
    subst h1
    subst hl
    exact run_convert_bytes_back w 39 9 5 ⟨g, 0, none⟩ c l Tryz.underlying39 Tryz.underlying5 Tryz.underlying9 (fun j hj => by
      obtain ⟨ad, hjl, e1, _, hc⟩ := h.bs.at_ hj
      obtain rfl := Option.some.inj e1
      exact hc)
set_option maxRecDepth 100000 in
theorem hex_any (A : Option Addr) (n c : Nat) (l : List UInt8) (B : Nat) (w : World) (hA : Bs w B A n l) (hB : B ≤ w.heap.size) (hn : n ≤ 1048576) :
    Calls Tryz.prog 71 #[.slice A n c] w fun e w' => e = .returned (.string ⟨(hexL l).toArray⟩) ∧ Below w.heap.size w w' := by
  have hmk := fun W => mk_bytes 0 (2 * n) (2 * (n : Int)) (by omega) (by omega) (by omega) W
  rw [show ((0 : Nat) : Int) = 0 from rfl] at hmk
  have hlen := hA.len
  have HL := hide hlen
  clear hlen
  go_enter Tryz.func71, Tryz.ntmps71
  go_wp2
  go_loopw [3, 12] (fun v i wr => ∃ j q : Nat, ∃ A' c', j ≤ n ∧ i = .int .i64 j ∧ v = .slice A' q c' ∧ q = 2 * j ∧ OwnB wr w.heap.size (.slice A' q c') q (hexL (l.take j)) ∧ Below w.heap.size w wr) (fun _ i _ => n - (intOf i).toNat)
  case atStart =>
    refine ⟨0, 0, _, _, Nat.zero_le _, rfl, rfl, rfl, ?_, (Below.refl _ _).alloc (Nat.le_refl _) _⟩
    exact own_of_cells (heap_alloc_new w _) (Nat.le_refl _) (by omega) (by unfold maxLen; omega) (zeroBytes_len _) (by simp [hexL, bvs]) (by simp [hexL, bvs])
  case round =>
    obtain ⟨j, q, A', c', hj, rfl, rfl, hq, hown, hb⟩ := hrel
    by_cases hlt : j < n
    · obtain ⟨ad, hjl, rfl, hbl, hc⟩ := hA.at_ hlt
      have hc' := (hb.cell (by rw [block_of_add]; omega)).trans hc
      unfold byteV at hc'
      clear hc
      obtain ⟨y, hy⟩ : ∃ y, y = l[j].toNat := ⟨_, rfl⟩
      rw [← hy] at hc'
      have hy256 : y < 256 := by rw [hy]; exact l[j].toNat_lt
      have hs : hexL (l.take (j + 1)) = hexL (l.take j) ++ [hexD (y / 16), hexD (y % 16)] := by rw [take_snoc hjl, hexL_snoc, ← hy]
      have e15 : bits .and .u8 (y : Int) 15 = ((y % 16 : Nat) : Int) := by
        have := u8_and_nat y 15 hy256 (by omega)
        rw [show ((15 : Nat) : Int) = 15 from rfl, nat_mask4] at this
        exact this
      have i1 := fun W => idx_tab ((y : Int) / 16) (y / 16) (by omega) (by omega) W
      have i2 := fun W => idx_tab (bits .and .u8 (y : Int) 15) (y % 16) e15 (by omega) W
      obtain ⟨d1, hd1⟩ : ∃ d, d = hexD (y / 16) := ⟨_, rfl⟩
      obtain ⟨d2, hd2⟩ : ∃ d, d = hexD (y % 16) := ⟨_, rfl⟩
      rw [← hd1] at i1 hs
      rw [← hd2] at i2 hs
      have hq2 : q ≤ 2 * j := by omega
      have hsz := hb.size
      have HS := hide hs
      have HQ := hide hq
      clear hs hy e15 hd1 hd2 hq
      go_wp2_with fail
      go_region_held3 (fun _ => True) (trivial)
        ((refine step_bytes_own _ (by rfl) _ _ (by rfl) w.heap.size q _ (hexL (l.take j)) (by rfl) ((hown.alloc _).drew) _ (some ⟨wr.heap.size, 0, none⟩) 2 2 [d1, d2] (by rfl) ((own_lit wr 0 2 [d1, d2] _ (by rfl) rfl (by decide) (Nat.zero_le _)).drew).bs (by omega) w.heap.size w (((hb.alloc hsz _)).drew) (Nat.le_refl _) (by simp; omega) ?_; intro A2 c2 w2 hown2 hb2 hsz2))
      all_goals
        go_wp2
        go_roundw
        case rel => exact ⟨j + 1, q + 2, A2, c2, by omega, by go_num, rfl, by rw [HQ.out]; omega, by rw [HS.out]; exact hown2, hb2⟩
        case measure => simp [intOf]; omega
    · obtain rfl : j = n := by omega
      have hcv := conv_own hown
      rw [List.take_of_length_le (by rw [HL.out]; omega)] at hcv
      have HQ := hide hq
      clear hq hown
      go_wp2
      go_ret
      exact ⟨rfl, hb⟩
theorem add_str (L M : List UInt8) (a b c : ByteArray) (ha : a = ⟨L.toArray⟩) (hb : b = ⟨M.toArray⟩) (hc : c = ⟨(L ++ M).toArray⟩) (hs : L.length + M.length ≤ 9223372036854775807) (W : World) :
    (Op.stringOp .add a b).run Tryz.prog W = .ok (.string c) W := by
  subst ha; subst hb; subst hc
  rw [run_string_add_sum W _ _ (by simpa [ByteArray.size] using hs), ByteArray.mk_append_mk]
set_option maxRecDepth 100000 in
theorem rhex_any (A : Option Addr) (n c : Nat) (l : List UInt8) (B : Nat) (w : World) (hA : Bs w B A n l) (hn : n ≤ 1048576) :
    Calls Tryz.prog 76 #[.slice A n c] w fun e w' => e = .returned (.string ⟨(hexL l).toArray⟩) ∧ Drawn w w' := by
  have hlen := hA.len
  have HL := hide hlen
  clear hlen
  go_enter Tryz.func76, Tryz.ntmps76
  go_wp2
  go_loopw [3, 4] (fun v i wr => ∃ j : Nat, ∃ s : ByteArray, j ≤ n ∧ i = .int .i64 j ∧ v = .string s ∧ s = ⟨(hexL (l.take j)).toArray⟩ ∧ Drawn w wr) (fun _ i _ => n - (intOf i).toNat)
  case atStart => exact ⟨0, _, Nat.zero_le _, rfl, rfl, by simp [hexL], Drawn.refl _⟩
  case round =>
    obtain ⟨j, s, hj, rfl, rfl, hs, ⟨nq0, rfl⟩⟩ := hrel
    by_cases hlt : j < n
    · have hltI : (j : Int) < (n : Int) := by omega
      obtain ⟨ad, hjl, rfl, hbl, hc⟩ := hA.at_ hlt
      unfold byteV at hc
      obtain ⟨y, hy⟩ : ∃ y, y = l[j].toNat := ⟨_, rfl⟩
      rw [← hy] at hc
      have hy256 : y < 256 := by rw [hy]; exact l[j].toNat_lt
      have hx : hexL (l.take (j + 1)) = (hexL (l.take j) ++ [hexD (y / 16)]) ++ [hexD (y % 16)] := by rw [take_snoc hjl, hexL_snoc, ← hy, List.append_assoc]; rfl
      have hll : (hexL (l.take j)).length ≤ 2 * n := by rw [hexL_len, List.length_take]; omega
      have i1 := fun W => sl_tab ((y : Int) / 16) ((y : Int) / 16 + 1) (y / 16) (by omega) (by omega) (by omega) W
      have i2 := fun W => sl_tab ((y : Int) % 16) ((y : Int) % 16 + 1) (y % 16) (by omega) (by omega) (by omega) W
      obtain ⟨d1, hd1⟩ : ∃ d, d = hexD (y / 16) := ⟨_, rfl⟩
      obtain ⟨d2, hd2⟩ : ∃ d, d = hexD (y % 16) := ⟨_, rfl⟩
      rw [← hd1] at i1 hx
      rw [← hd2] at i2 hx
      obtain ⟨e1, he1⟩ : ∃ e : ByteArray, e = ⟨#[d1]⟩ := ⟨_, rfl⟩
      obtain ⟨e2, he2⟩ : ∃ e : ByteArray, e = ⟨#[d2]⟩ := ⟨_, rfl⟩
      obtain ⟨s1, hs1⟩ : ∃ e : ByteArray, e = ⟨(hexL (l.take j) ++ [d1]).toArray⟩ := ⟨_, rfl⟩
      obtain ⟨s2, hs2⟩ : ∃ e : ByteArray, e = ⟨((hexL (l.take j) ++ [d1]) ++ [d2]).toArray⟩ := ⟨_, rfl⟩
      have a1 := fun W => add_str (hexL (l.take j)) [d1] s e1 s1 hs he1 hs1 (by simp; omega) W
      have a2 := fun W => add_str (hexL (l.take j) ++ [d1]) [d2] s1 e2 s2 hs1 he2 hs2 (by simp; omega) W
      rw [← hx] at hs2
      rw [← he1] at i1
      rw [← he2] at i2
      have HS := hide hs2
      clear hs2 hs1 hs he1 he2 hd1 hd2 hx hy hll
      go_wp2_with fail
      go_quiet (fail)
      go_wp2
      go_roundw
      case rel => exact ⟨j + 1, s2, by omega, by go_num, rfl, HS.out, (by first | exact drawn_one _ _ | exact drawn_two _ _ _)⟩
      case measure => simp [intOf]; omega
    · have HS := hide hs
      clear hs
      go_wp2
      go_ret
      have e := HS.out
      rw [List.take_of_length_le (by rw [HL.out]; omega)] at e
      rw [← e]
      exact ⟨rfl, drawn_one _ _⟩
def UnPost (w : World) (r : Option (List UInt8)) (e : Ending) (w' : World) : Prop :=
  match r with
  | some r => ∃ A c, e = .returned (.tuple #[.slice A r.length c, .int .i64 0]) ∧ OwnB w' w.heap.size (.slice A r.length c) r.length r ∧ Below w.heap.size w w'
  | none => e = .returned (.tuple #[.slice none 0 0, .int .i64 5]) ∧ Below w.heap.size w w'
end Go.Proofs.YtjmkecaljkcoiaaGreatDoor
