import Derived.Lib.AtoiErrMem
import Derived.Lib.IndexBytes
import Derived.Deep.QuietTactic
import Derived.BigQuiet
import Derived.Test.YtjmkecaljkcoiaaGreatDoorQPid4
import Derived.Laws.Strings3
import Derived.Test.YtjmkecaljkcoiaaGreatDoorQBytes1
import Derived.Test.YtjmkecaljkcoiaaGreatDoorSh1
import Derived.Test.YtjmkecaljkcoiaaGreatDoorQViewT
import Derived.Test.YtjmkecaljkcoiaaGreatDoorQViewC
namespace Go.Proofs.YtjmkecaljkcoiaaGreatDoor
open Go.RowKit Go.Lib Go.Sort
set_option linter.unusedVariables false
set_option linter.unusedSimpArgs false
def Errs (w : World) : Prop := (∃ tp p, w.var? Tryz.prog "strconv.ErrSyntax" = some #[.iface tp p]) ∧ ∃ tp p, w.var? Tryz.prog "strconv.ErrRange" = some #[.iface tp p]
theorem var_below {w w' : World} {nm : String} {cs : Array Value} (h : w.var? Tryz.prog nm = some cs) (hb : Below w.heap.size w w') : w'.var? Tryz.prog nm = some cs := by
  unfold World.var? at *
  cases hg : Tryz.prog.globalNamed nm with
  | none => simp [hg] at h
  | some g =>
    simp only [hg, Option.bind_some] at h ⊢
    have hlt : g < w.heap.size := by
      rcases Nat.lt_or_ge g w.heap.size with h' | h'
      · exact h'
      · rw [Array.getElem?_eq_none h'] at h; simp at h
    rw [hb.block g hlt]
    exact h
theorem Errs.below {w w' : World} (h : Errs w) (hb : Below w.heap.size w w') : Errs w' := by
  obtain ⟨⟨t, p, h1⟩, t', p', h2⟩ := h
  exact ⟨⟨t, p, var_below h1 hb⟩, t', p', var_below h2 hb⟩
def PuOk (u : Nat) (w : World) (e : Ending) (w' : World) : Prop := e = .returned (.tuple #[.int .u64 u, .nilIface]) ∧ Below w.heap.size w w'
def PuErr (w : World) (e : Ending) (w' : World) : Prop := ∃ (x : Int) (N : Nat), e = .returned (.tuple #[.int .u64 x, .iface 181 (.pointer (some ⟨N, 0, none⟩))]) ∧ Below w.heap.size w w'
def CutSome (n : Nat) (w : World) (e : Ending) (w' : World) : Prop := ∃ (b1 b2 : ByteArray) (f : Bool), e = .returned (.tuple #[.string b1, .string b2, .bool f]) ∧ b1.size ≤ n ∧ b2.size ≤ n ∧ Below w.heap.size w w'
theorem pidS_size (i k : Nat) (hi : i < 65536) (hk : k < 4294967296) : (pidS i k).size ≤ 16 := by
  have := pidT_len i k hi hk
  show (pidT i k).toArray.size ≤ 16
  simpa using this
def ParsesP (w : World) (q : Nat × Nat × Nat) (e : Ending) (w' : World) : Prop :=
  e = .returned (.tuple #[.agg #[.int .u16 q.1, .int .u32 q.2.1], .int .i64 q.2.2]) ∧ Below w.heap.size w w'
end Go.Proofs.YtjmkecaljkcoiaaGreatDoor
namespace Go.Proofs.YtjmkecaljkcoiaaGreatDoor
open Go.RowKit Go.Sort
open Go.Lib hiding intOf
set_option linter.unusedVariables false
set_option linter.unusedSimpArgs false
theorem valF_lt' (l : List UInt8) (acc : Nat) (h : allDig l) : valF acc l < (acc + 1) * 10 ^ l.length := by
  induction l generalizing acc with
  | nil => simp [valF]
  | cons c r ih =>
    have h1 : 48 ≤ c.toNat ∧ c.toNat ≤ 57 := h c (List.mem_cons_self ..)
    have h2 := ih (acc * 10 + (c.toNat - 48)) fun x hx => h x (List.mem_cons_of_mem _ hx)
    have h3 : valF acc (c :: r) = valF (acc * 10 + (c.toNat - 48)) r := rfl
    have h4 : (acc * 10 + (c.toNat - 48) + 1) * 10 ^ r.length ≤ ((acc + 1) * 10) * 10 ^ r.length := Nat.mul_le_mul_right _ (by omega)
    rw [h3, List.length_cons, Nat.pow_succ, Nat.mul_comm (10 ^ r.length) 10, ← Nat.mul_assoc]
    omega
theorem valF_lt (l : List UInt8) (h : allDig l) : valF 0 l < 10 ^ l.length := by
  have := valF_lt' l 0 h
  simpa using this
structure NumInv (l : List UInt8) (k v : Nat) : Prop where
  all : allDig (l.take k)
  val : v = valF 0 (l.take k)
theorem NumInv.start (l : List UInt8) : NumInv l 0 0 := ⟨fun c hc => by simp at hc, by simp [valF]⟩
theorem NumInv.step {l : List UInt8} {k v y : Nat} (h : NumInv l k v) (hk : k < l.length) (hy : y = l[k].toNat) (h1 : 48 ≤ y) (h2 : y ≤ 57) : NumInv l (k + 1) (v * 10 + (y - 48)) := by
  have e : l.take (k + 1) = l.take k ++ [l[k]] := by rw [List.take_succ_eq_append_getElem hk]
  refine ⟨fun c hc => ?_, ?_⟩
  · rw [e] at hc
    rcases List.mem_append.1 hc with hc | hc
    · exact h.all c hc
    · rw [List.mem_singleton] at hc
      subst hc
      exact ⟨by omega, by omega⟩
  · rw [e, valF_snoc, ← h.val, hy]
theorem NumInv.fits {l : List UInt8} {k v : Nat} (h : NumInv l k v) (hk : k ≤ 12) : v < 1000000000000 := by
  have h1 := valF_lt _ h.all
  rw [← h.val] at h1
  have h2 : (l.take k).length ≤ 12 := Nat.le_trans (List.length_take_le _ _) hk
  have h3 : 10 ^ (l.take k).length ≤ 10 ^ 12 := Nat.pow_le_pow_right (by decide) h2
  have h4 : 10 ^ 12 = 1000000000000 := by decide
  omega
theorem NumInv.done {l : List UInt8} {k v : Nat} (h : NumInv l k v) (hk : l.length ≤ k) : v = valF 0 l := by
  have := h.val
  rwa [List.take_of_length_le hk] at this
theorem NumInv.bad {l : List UInt8} {k : Nat} (hk : k < l.length) (h : l[k].toNat < 48 ∨ 57 < l[k].toNat) : ¬ allDig l := fun ha => by
  have h1 : 48 ≤ l[k].toNat ∧ l[k].toNat ≤ 57 := ha l[k] (List.getElem_mem hk)
  omega
def NumP (l : List UInt8) (m : Nat) (w : World) (e : Ending) (w' : World) : Prop :=
  (∃ (x : Nat) (b : Bool), e = .returned (.tuple #[.int .u64 x, .bool b]) ∧ (allDig l → l ≠ [] → l.length ≤ 12 → x = valF 0 l ∧ b = decide (valF 0 l ≤ m))) ∧ w = w'
def NumSome (w : World) (e : Ending) (w' : World) : Prop := (∃ (x : Nat) (b : Bool), e = .returned (.tuple #[.int .u64 x, .bool b])) ∧ w = w'
end Go.Proofs.YtjmkecaljkcoiaaGreatDoor
namespace Go.Proofs.YtjmkecaljkcoiaaGreatDoor
open Go.RowKit Go.Maps
open Go.Lib (decDigits)
set_option linter.unusedVariables false
set_option linter.unusedSimpArgs false
def txt (l : List UInt8) : ByteArray := ⟨l.toArray⟩
theorem txt_size (l : List UInt8) : (txt l).size = l.length := by show l.toArray.size = l.length; simp
theorem txt_of (s : ByteArray) : s = txt s.data.toList := by apply ByteArray.ext; simp [txt]
theorem part_txt (L : List UInt8) (i k n : Nat) (star : Bool) : (txt L ++ ((⟨#[32]⟩ : ByteArray) ++ pidS i k ++ (⟨#[47]⟩ : ByteArray) ++ decS n)) = txt (L ++ (32 :: (pidT i k ++ (47 :: decDigits n)))) := by
  apply ByteArray.ext
  simp [txt, pidS, decS]
theorem part_star (L : List UInt8) : txt L ++ (⟨#[42]⟩ : ByteArray) = txt (L ++ [42]) := by
  apply ByteArray.ext
  simp [txt]
def upL (v : Vi) (j : Nat) : List UInt8 := decDigits v.id ++ partsL v (v.mem.take j)
theorem upL_step {v : Vi} {j : Nat} (h : j < v.mem.length) : upL v (j + 1) = upL v j ++ (32 :: partL v v.mem[j]) := by
  unfold upL
  rw [partsL_take v h, List.append_assoc]
theorem upL_len {v : Vi} (hid : v.id < 18446744073709551616) (h : ∀ p ∈ v.mem, lfX v.lvs p < 100) : ∀ j, j ≤ v.mem.length → (upL v j).length ≤ 20 + 21 * j
  | 0, _ => by
    unfold upL
    have := nDigits_20 v.id hid
    simpa [partsL] using this
  | j + 1, hj => by
    rw [upL_step (by omega), List.length_append, List.length_cons]
    have h1 := upL_len hid h j (by omega)
    have h2 := partL_len v v.mem[j] (h _ (List.getElem_mem _))
    omega
def printS (v : Vi) (t : Bool) : ByteArray := if t then txt (printL v) else ⟨#[]⟩
set_option maxRecDepth 100000 in
set_option maxHeartbeats 4000000 in
theorem vprint_any (x : Vw) (B : Nat) (w : World) (t : Bool) (h : VwIn w B x) (hs : VSmall x) (hB : B ≤ w.heap.size) (ht : t = true ↔ MayV x.v) (hP : Pows w) :
    Calls Tryz.prog 11 #[.agg #[.int .u64 x.id, .slice x.A x.m x.c, .slice x.B x.d x.e, .slice x.C x.f x.g]] w fun e w' => e = .returned (.tuple #[.string (printS x.v t), .int .i64 (ckI t)]) ∧ Below w.heap.size w w' := by
  have hbz : Below w.heap.size w (w.alloc (.cells #[.int .u64 x.id, .slice x.A x.m x.c, .slice x.B x.d x.e, .slice x.C x.f x.g] 26)) := (Below.refl _ _).alloc (Nat.le_refl _) _
  have v0 := VAt.mk_ w x
  have ck := check_any x B (w.alloc (.cells #[.int .u64 x.id, .slice x.A x.m x.c, .slice x.B x.d x.e, .slice x.C x.f x.g] 26)) t (h.below (hbz.mono hB)) hs (Nat.le_trans hB hbz.size) ht
  obtain ⟨j0, j1, j2, j3⟩ := v0.cells
  go_enter Tryz.func11, Tryz.ntmps11
  cases t
  · rw [show ckI false = 1 from rfl] at ck ⊢
    go_wp2_with fail
    refine ck.mono ?_
    rintro e w1 ⟨rfl, hb1⟩
    have hb2 := hbz.trans (hb1.mono hbz.size)
    go_wp2
    refine bodyPost_ret (v := .tuple #[.string ⟨#[]⟩, .int .i64 1]) (by simp [results, Tryz.results11, go_sem]) rfl ⟨rfl, hb2⟩
  · rw [show ckI true = 0 from rfl] at ck ⊢
    have hmay := ht.1 rfl
    clear ht
    go_wp2_with fail
    refine ck.mono ?_
    rintro e w1 ⟨rfl, hb1⟩
    have hb2 := hbz.trans (hb1.mono hbz.size)
    have v1 := v0.later hb1
    have hP1 := hP.below hb2
    clear hb1 v0 hbz ck j0 j1 j2 j3 hP
    obtain ⟨j0, j1, j2, j3⟩ := v1.cells
    go_wp2_with fail
    refine (fmtu_any x.id h.hid w1 hP1).mono ?_
    rintro e w2 ⟨rfl, hb1⟩
    have hb3 := hb2.trans (hb1.mono hb2.size)
    have v2 := v1.later hb1
    have hP2 := hP1.below hb1
    clear hb1 hb2 v1 j0 j1 j2 j3 hP1
    obtain ⟨j0, j1, j2, j3⟩ := v2.cells
    have hT0 : decS x.id = txt (upL x.v 0) := by
      apply ByteArray.ext
      simp [decS, txt, upL, partsL, Vw.v]
    rw [hT0]
    have hml : x.v.mem.length = x.m := h.es.len
    have hlf : ∀ p ∈ x.v.mem, lfX x.v.lvs p < 100 := fun p hp => by
      obtain ⟨h1, _⟩ := lfX_lt _ _ (hmay.lvs.has hp)
      have h2 : x.v.lvs.length ≤ x.v.mem.length := by
        have := hmay.lvs.firsts.len
        rwa [firstsP_len] at this
      have h3 := hs.m
      omega
    have hm40 := hs.m
    have hlen := upL_len (v := x.v) h.hid hlf
    have HL := hide (And.intro hmay (And.intro hlf (And.intro hlen hml)))
    clear hT0 hmay hlf hlen hml
    go_wp2_with fail
    go_loopw [5, 19] (fun s i wr => ∃ j : Nat, j ≤ x.m ∧ i = .int .i64 j ∧ s = .string (txt (upL x.v j)) ∧ VAt wr w.heap.size x ∧ Pows wr ∧ Below w.heap.size w wr) (fun _ i _ => x.m - (intOf i).toNat)
    case atStart => exact ⟨0, Nat.zero_le _, rfl, rfl, v2, hP2, hb3⟩
    case round =>
      clear j0 j1 j2 j3 v2 hP2 hb3
      obtain ⟨j, hj, rfl, rfl, vr, hPr, hbr⟩ := hrel
      by_cases hlt : j < x.m
      · have hA := (h.below (hbr.mono hB)).es
        obtain ⟨ad, hl, hAe, _, hc⟩ := hA.at_ prOk hlt
        obtain ⟨p, hp⟩ : ∃ p, p = x.l[j] := ⟨_, rfl⟩
        have hpm : p ∈ x.v.mem := by rw [hp]; exact List.getElem_mem hl
        have hstep := upL_step (v := x.v) (j := j) (by rw [HL.out.2.2.2]; exact hlt)
        rw [show x.v.mem[j]'(by rw [HL.out.2.2.2]; exact hlt) = p from hp.symm] at hstep
        rw [← hp] at hc
        obtain ⟨c0, c1⟩ := pr_at hc
        have hk := HL.out.2.1 p hpm
        have hsz := HL.out.2.2.1 j (by rw [HL.out.2.2.2]; exact hj)
        have hlfI : lfI x.v.lvs p = (lfX x.v.lvs p : Int) := if_pos (HL.out.1.lvs.has hpm)
        have hb1 : Below wr.heap.size wr (wr.alloc (.cells #[.int .u16 p.i, .int .u32 p.k] 44)) := (Below.refl _ _).alloc (Nat.le_refl _) _
        have hbw := hbr.trans (hb1.mono hbr.size)
        have vr1 := vr.later hb1
        have hP1 := hPr.below hb1
        have f0 : (wr.alloc (.cells #[.int .u16 p.i, .int .u32 p.k] 44)).cell? ⟨wr.heap.size, 0, none⟩ = some (.int .u16 p.i) := by go_simp
        have f1 : (wr.alloc (.cells #[.int .u16 p.i, .int .u32 p.k] 44)).cell? ⟨wr.heap.size, 1, none⟩ = some (.int .u32 p.k) := by go_simp
        clear hp hc
        go_wp2_with fail
        generalize (wr.alloc (.cells #[.int .u16 p.i, .int .u32 p.k] 44)) = w3 at *
        have k1 := fun Z : Later w3 => calm_of (print_any p.i p.k Z.w p.hi p.hk (hP1.below Z.below))
        have k2 := fun Z : Later w3 => calm_of (leaf_any x p B Z.w (h.below ((hbw.trans (Z.below.mono hbw.size)).mono hB)) (Nat.le_trans hB (Nat.le_trans hbw.size Z.below.size)))
        rw [hlfI] at k2
        have k3 := fun Z : Later w3 => calm_same ((Tryz.strconv_Itoa_small (lfX x.v.lvs p) hk Z.w).mono fun e w' he => ⟨he.1, he.2.symm⟩)
        have hE := part_txt (upL x.v j) p.i p.k (lfX x.v.lvs p) true
        have hsp := pidS_size p.i p.k p.hi p.hk
        have hsd : (decS (lfX x.v.lvs p)).size ≤ 20 := by
          show (decDigits (lfX x.v.lvs p)).toArray.size ≤ 20
          have := dec_len (lfX x.v.lvs p) 1 (by omega)
          simp
          omega
        have hst : (txt (upL x.v j)).size ≤ 1000 := by rw [txt_size]; omega
        have HE := hide (And.intro hE hstep)
        obtain ⟨q0, q1, q2, q3⟩ := vr1.cells
        have g0 := Later.cell f0
        have g1 := Later.cell f1
        have g2 := Later.cell q0
        have g3 := Later.cell q1
        have g4 := Later.cell q2
        have g5 := Later.cell q3
        have k3' : ∀ Z : Later w3, _ := k3
        have hkk : (⟨(decDigits (lfX x.v.lvs p)).toArray⟩ : ByteArray) = decS (lfX x.v.lvs p) := rfl
        rw [hkk] at k3
        clear hE hstep f0 f1 q0 q1 q2 q3 k3' hkk hlfI hAe
        generalize pidS p.i p.k = ps at *
        generalize decS (lfX x.v.lvs p) = ds at *
        generalize txt (upL x.v j) = tj at *
        refine wp_region_calm (by kernel_rfl) (by kernel_rfl) ?_
        repeat (go_big_quiet_step (first | (go_at_call 38; with_reducible exact k1 _) | (go_at_call 28; with_reducible exact k2 _) | (go_at_call 39; with_reducible exact k3 _)))
        refine wpQuiet_nil ?_
        rintro _ ⟨x9, rfl⟩
        have hb9 := x9.below
        generalize x9.w = w9 at hb9 ⊢
        have hb10 := hbw.trans (hb9.mono hbw.size)
        have vr9 := vr1.later hb9
        have hP9 := hP1.below hb9
        have r0 := cellL (g0 ⟨w3, Below.refl _ _⟩) hb9
        have r1 := cellL (g1 ⟨w3, Below.refl _ _⟩) hb9
        obtain ⟨s0, s1, s2, s3⟩ := vr9.cells
        have cl := leads_any x p B w9 (h.below (hb10.mono hB)) (Nat.le_trans hB hb10.size)
        have hq := HE.out.1
        obtain ⟨tx, htx⟩ : ∃ tx : ByteArray, tx = tj ++ ((⟨#[32]⟩ : ByteArray) ++ ps ++ (⟨#[47]⟩ : ByteArray) ++ ds) := ⟨_, rfl⟩
        rw [← htx] at hq
        clear g0 g1 g2 g3 g4 g5 k1 k2 k3 vr1 hP1 hb9 hbw vr hPr hbr hb1 hsp hsd c0 c1
        by_cases hld : p ∈ x.r
        · rw [decide_eq_true hld] at cl
          have e9 : upL x.v (j + 1) = upL x.v j ++ (32 :: (pidT p.i p.k ++ (47 :: decDigits (lfX x.v.lvs p)))) ++ [42] := by
            rw [HE.out.2]
            unfold partL
            rw [if_pos (show p ∈ x.v.ldr from hld)]
            simp
          have h9 : tx ++ (⟨#[42]⟩ : ByteArray) = txt (upL x.v (j + 1)) := by rw [e9, ← part_star, hq]
          have htz : tx.size ≤ 2000 := by
            rw [hq, txt_size]
            have := HL.out.2.2.1 (j + 1) (by rw [HL.out.2.2.2]; exact hlt)
            rw [e9, List.length_append] at this
            omega
          have HT := hide h9
          clear hq h9 e9 hld hst
          rw [← htx]
          clear htx
          go_wp2_with fail
          refine cl.mono ?_
          rintro e w10 ⟨rfl, hb11⟩
          have hb12 := hb10.trans (hb11.mono hb10.size)
          have vr10 := vr9.later hb11
          have hP10 := hP9.below hb11
          clear r0 r1 s0 s1 s2 s3 cl vr9 hP9 hb11 hb10
          go_wp2_with fail
          go_roundw
          case rel => exact ⟨j + 1, by omega, by go_num, by rw [HT.out], vr10, hP10, hb12⟩
          case measure => simp [RowKit.intOf]; omega
        · rw [decide_eq_false hld] at cl
          have e9 : upL x.v (j + 1) = upL x.v j ++ (32 :: (pidT p.i p.k ++ (47 :: decDigits (lfX x.v.lvs p)))) := by
            rw [HE.out.2]
            unfold partL
            rw [if_neg (show ¬ p ∈ x.v.ldr from hld)]
            simp
          have h9 : tx = txt (upL x.v (j + 1)) := by rw [e9, hq]
          have HT := hide h9
          clear hq h9 e9 hld hst
          rw [← htx]
          clear htx
          go_wp2_with fail
          refine cl.mono ?_
          rintro e w10 ⟨rfl, hb11⟩
          have hb12 := hb10.trans (hb11.mono hb10.size)
          have vr10 := vr9.later hb11
          have hP10 := hP9.below hb11
          clear r0 r1 s0 s1 s2 s3 cl vr9 hP9 hb11 hb10
          go_wp2_with fail
          go_roundw
          case rel => exact ⟨j + 1, by omega, by go_num, by rw [HT.out], vr10, hP10, hb12⟩
          case measure => simp [RowKit.intOf]; omega
      · have e9 : txt (upL x.v j) = printS x.v true := by
          show _ = txt (printL x.v)
          unfold upL printL
          rw [List.take_of_length_le (by rw [HL.out.2.2.2]; omega)]
        rw [e9]
        clear e9
        go_wp2
        refine bodyPost_ret (v := .tuple #[.string (printS x.v true), .int .i64 0]) (by simp [results, Tryz.results11, go_sem]) rfl ⟨rfl, hbr⟩
end Go.Proofs.YtjmkecaljkcoiaaGreatDoor
