/-
  A Reader's methods wherever it stands: read, stopped now, or stopped before.
-/
import Derived.Test.YtjmkecaljkcoiaaDoorQOpenC
import Derived.Test.YtjmkecaljkcoiaaDoorQRd1
import Derived.Test.YtjmkecaljkcoiaaDoorQCmdM
import Derived.Deep.RegionHeld3
import Derived.Deep.AppendLies
import Derived.Test.YtjmkecaljkcoiaaDoorQViewP
import Derived.Test.YtjmkecaljkcoiaaDoorQCmd2
namespace Go.Proofs.YtjmkecaljkcoiaaDoor
open Go.RowKit Go.Maps
set_option linter.unusedVariables false
set_option linter.unusedSimpArgs false

theorem rdnum_tot (b most : Nat) (s : RS) (w : World) (h : RdAt w b s.l s.t) (hm : most < 18446744073709551616) :
    Calls Tryd.prog 52 #[.pointer (some ⟨b, 0, none⟩), .int .u64 (most : Int)] w (ReadsP w b (.int .u64 ((numS most s).1 : Nat)) (numS most s).2.l (numS most s).2.t) := by
  obtain ⟨l, t⟩ := s
  dsimp only at h
  by_cases ht : t = 0
  · subst ht
    by_cases hE : numE l most = 0
    · have e : numS most ⟨l, 0⟩ = ((getF l).1, ⟨l.drop (getF l).2.1, 0⟩) := by unfold numS; rw [if_pos rfl, if_pos hE]
      rw [e]
      exact rdnum_ok b l most w h hm hE
    · have e : numS most ⟨l, 0⟩ = (0, ⟨l, numE l most⟩) := by unfold numS; rw [if_pos rfl, if_neg hE]
      rw [e]
      exact rdnum_bad b l most w h hm hE
  · rw [numS_stop (s := ⟨l, t⟩) ht]
    exact rdnum_stop b t l most w h ht
theorem rdpid_tot (b : Nat) (s : RS) (w : World) (h : RdAt w b s.l s.t) :
    Calls Tryd.prog 83 #[.pointer (some ⟨b, 0, none⟩)] w (ReadsP w b (.agg #[.int .u16 ((pidQ s).1.i : Int), .int .u32 ((pidQ s).1.k : Int)]) (pidQ s).2.l (pidQ s).2.t) := by
  obtain ⟨l, t⟩ := s
  dsimp only at h
  by_cases ht : t = 0
  · subst ht
    by_cases hE : (pidG l).2.2.2 = 0
    · have e : pidQ ⟨l, 0⟩ = (prOf l, ⟨l.drop (pidG l).2.2.1, 0⟩) := by unfold pidQ; rw [if_pos rfl, if_pos hE]
      rw [e]
      exact rdpid_ok b l w h hE
    · have e : pidQ ⟨l, 0⟩ = (default, ⟨l, (pidG l).2.2.2⟩) := by unfold pidQ; rw [if_pos rfl, if_neg hE]
      rw [e]
      exact rdpid_bad b l w h hE
  · rw [pidQ_stop (s := ⟨l, t⟩) ht]
    exact rdpid_stop b t l w h ht
def BytT (w : World) (b : Nat) (r : List UInt8 × RS) (e : Ending) (w' : World) : Prop := ∃ A c, e = .returned (.slice A r.1.length c) ∧ OwnB w' w.heap.size (.slice A r.1.length c) r.1.length r.1 ∧ RdAt w' b r.2.l r.2.t ∧ Turn w w' b none
theorem rdbytes_tot (b : Nat) (most : Nat) (s : RS) (w : World) (h : RdAt w b s.l s.t) (hm : most ≤ 1000000) (hl : s.l.length ≤ 100000000000) :
    Calls Tryd.prog 88 #[.pointer (some ⟨b, 0, none⟩), .int .i64 (most : Int)] w (BytT w b (bytS most s)) := by
  obtain ⟨l, t⟩ := s
  dsimp only at h hl
  have hmf : mostF (most : Int) = most := by unfold mostF; simp
  by_cases ht : t = 0
  · subst ht
    refine (rdbytes_any b l most w h (by omega) (by omega) hl).mono fun e w' hw => ?_
    rw [hmf] at hw
    rcases hw with ⟨hE, v, h1, ⟨A, c, h2, h3⟩, h4, h5⟩ | ⟨hE, h1, h2, h3⟩
    · have e : bytS most ⟨l, 0⟩ = (bytV l, ⟨bytR l, 0⟩) := by unfold bytS; rw [if_pos rfl, if_pos hE]
      rw [e]
      exact ⟨A, c, by rw [h1, h2], h3, h4, h5⟩
    · have e : bytS most ⟨l, 0⟩ = ([], ⟨l, bytE l most⟩) := by unfold bytS; rw [if_pos rfl, if_neg hE]
      rw [e]
      exact ⟨none, 0, h1, OwnB.nil_ _ _, h2, h3⟩
  · rw [bytS_stop (s := ⟨l, t⟩) ht]
    exact (rdbytes_stop b t l most w h ht).mono fun e w' ⟨h1, h2, h3⟩ => ⟨none, 0, h1, OwnB.nil_ _ _, h2, h3⟩
def PidsT (w : World) (b : Nat) (r : List Pr × RS) (e : Ending) (w' : World) : Prop := ∃ A c, e = .returned (.slice A r.1.length c) ∧ OwnP w' w.heap.size (.slice A r.1.length c) r.1.length r.1 ∧ RdAt w' b r.2.l r.2.t ∧ Turn w w' b none
theorem rdpids_tot (b : Nat) (most : Nat) (s : RS) (w : World) (h : RdAt w b s.l s.t) (hm : most ≤ 1000000) :
    Calls Tryd.prog 54 #[.pointer (some ⟨b, 0, none⟩), .int .i64 (most : Int)] w (PidsT w b (pidsS most s)) := by
  obtain ⟨l, t⟩ := s
  dsimp only at h
  have hmf : mostF (most : Int) = most := by unfold mostF; simp
  by_cases ht : t = 0
  · subst ht
    refine (rdpids_any b l most w h (by omega) (by omega)).mono fun e w' hw => ?_
    rw [hmf] at hw
    rcases hw with ⟨hE, v, h1, ⟨A, c, h2, h3⟩, h4, h5⟩ | ⟨hE, h1, h2, h3⟩
    · have e : pidsS most ⟨l, 0⟩ = (psV l, ⟨psR l, 0⟩) := by unfold pidsS; rw [if_pos rfl, if_pos hE]
      rw [e]
      exact ⟨A, c, by rw [h1, h2], h3, h4, h5⟩
    · have e : pidsS most ⟨l, 0⟩ = ([], ⟨l, psE l most⟩) := by unfold pidsS; rw [if_pos rfl, if_neg hE]
      rw [e]
      exact ⟨none, 0, h1, OwnE.nil_ _ _, h2, h3⟩
  · rw [pidsS_stop (s := ⟨l, t⟩) ht]
    exact (rdpids_stop b t l most w h ht).mono fun e w' ⟨h1, h2, h3⟩ => ⟨none, 0, h1, OwnE.nil_ _ _, h2, h3⟩
end Go.Proofs.YtjmkecaljkcoiaaDoor
namespace Go.Proofs.YtjmkecaljkcoiaaDoor
open Go.RowKit Go.Maps
set_option linter.unusedVariables false
set_option linter.unusedSimpArgs false

theorem rkL_drop (mem : List Pr) {l : List Pr} {j : Nat} (h : j < l.length) (t : List UInt8) : rkL mem (l.drop j) ++ t = shortL (plc mem l[j]) ++ (rkL mem (l.drop (j + 1)) ++ t) := by
  rw [List.drop_eq_getElem_cons h, rkL, List.append_assoc]
set_option maxRecDepth 100000 in
set_option maxHeartbeats 4000000 in
theorem getsome_any (b n c : Nat) (A : Option Addr) (mem l : List Pr) (t : List UInt8) (w : World) (h : RdAt w b (someL mem l ++ t) 0)
    (hM : ∀ W, Turn w W b none → Es prC W W.heap.size A n mem) (hn : n ≤ 40) (hl : l.length ≤ 24) (hmem : ∀ p ∈ l, p ∈ mem) :
    Calls Tryd.prog 121 #[.pointer (some ⟨b, 0, none⟩), .slice A n c] w (ReadsPs w b l.length l t) := by
  obtain ⟨i0, hi, hz0, hz1, hz2⟩ := info_parts info_pid
  have hmn := (hM w (Turn.refl _ _ _)).len
  have hlt := h.lt
  unfold someL at h
  rw [List.append_assoc] at h
  have cn := rdnum_front b l.length 24 (rkL mem l ++ t) w h hl (by decide)
  have HM := hide (And.intro hM hmem)
  clear hM hmem h
  go_enter Tryd.func121, Tryd.ntmps121
  go_wp2_with fail
  refine cn.mono ?_
  rintro e w2 ⟨rfl, h2, ht2⟩
  clear cn
  go_wp2
  go_loopw [5, 8] (fun v i wr => ∃ (j : Nat) (A' : Option Addr) (c' : Nat), j ≤ l.length ∧ i = .int .u64 j ∧ v = .slice A' j c' ∧ OwnP wr w.heap.size (.slice A' j c') j (l.take j) ∧ RdAt wr b (rkL mem (l.drop j) ++ t) 0 ∧ Turn w wr b none) (fun _ i _ => l.length - (intOf i).toNat)
  case atStart => exact ⟨0, none, 0, Nat.zero_le _, rfl, rfl, OwnE.nil_ _ _, by simpa using h2, ht2⟩
  case round =>
    clear h2 ht2
    obtain ⟨j, A', c', hj, rfl, rfl, hO, hR, hT⟩ := hrel
    have hsz := hT.size
    by_cases hjl : j < l.length
    · rw [rkL_drop mem hjl t] at hR
      have hqm : l[j] ∈ mem := HM.out.2 _ (List.getElem_mem hjl)
      have hst := List.take_succ_eq_append_getElem hjl
      obtain ⟨q, hq⟩ : ∃ q, q = l[j] := ⟨_, rfl⟩
      rw [← hq] at hR hqm hst
      have hk := plc_lt hqm
      have hat := plc_at hqm
      obtain ⟨k, hke⟩ : ∃ k, k = plc mem q := ⟨_, rfl⟩
      rw [← hke] at hR hk hat
      obtain ⟨m, hm⟩ : ∃ m, n = m + 1 := ⟨n - 1, by omega⟩
      have e1 : ((n : Int) == 0) = false := by simp only [beq_eq_false_iff_ne, ne_eq]; omega
      have e2 : (n : Int) - 1 = (m : Int) := by omega
      have e3 : IntKind.u64.wrap (m : Int) = (m : Int) := by rw [IntKind.wrap_u64]; omega
      have e4 : IntKind.u64.wrap ((j : Int) + 1) = ((j + 1 : Nat) : Int) := by rw [IntKind.wrap_u64]; omega
      have cp := rdnum_front b k m (rkL mem (l.drop (j + 1)) ++ t) wr hR (by omega) (by omega)
      have x1 : (0 : Int) ≤ (k : Int) := by omega
      have x2 : (k : Int) < (n : Int) := by omega
      have x3 : k < n := by omega
      have HS := hide hst
      clear hst hke hR hqm hq hm
      go_wp2_with fail
      refine cp.mono ?_
      rintro e w3 ⟨rfl, h3, ht3⟩
      have hO3 := hO.turnLow ht3 hlt
      have hT3 := hT.trans ht3 (Mov.refl _ _)
      have hs3 := hT3.size
      obtain ⟨ad, hl2, rfl, hbl, hc⟩ := (HM.out.1 w3 hT3).at_ prOk x3
      rw [show mem[k] = q from Option.some.inj ((List.getElem?_eq_getElem hl2).symm.trans hat)] at hc
      obtain ⟨c0, c1⟩ := pr_at hc
      clear cp hO hT hc hat hbl ht3
      go_wp2_with (at_builtin; refine wp_append_e _ rfl (.tmp 15) (.tmp 25) 30 rfl 25 i0 _ 8 Tryd.underlying30 hi hz0 ‹_› hz2 rfl prOk w.heap.size j _ (l.take j) rfl (hO3.alloc _) (w3.heap.size + 1) _ 1 1 [q] rfl (es_pr w3 q _) (by unfold maxLen; omega) (by omega) 0 _ (Below.refl _ _) (Nat.zero_le _) (by simp; omega) ?_; intro A2 c2 w4 r1 r2 r3 r4; refine Hid.out ?_)
      have r5 : (w3.alloc (.cells #[.int .u16 (q.i : Int), .int .u32 (q.k : Int)] 25)).grownBy w4 (Value.slice A' j c').ownBlock := r4
      have r6 : OwnP w4 w.heap.size (.slice A2 (j + 1) c2) (j + 1) (l.take j ++ [q]) := r1
      rw [← HS.out] at r6
      have hT4 := (hT3.alloc (.cells #[.int .u16 (q.i : Int), .int .u32 (q.k : Int)] 25)).grownNew r5 (fun g hg => (hO3.lt g hg).1)
      have hR4 := (h3.alloc (.cells #[.int .u16 (q.i : Int), .int .u32 (q.k : Int)] 25)).grown r5 (fun g hg => by have := (hO3.lt g hg).1; omega)
      have HR := hide (And.intro r6 (And.intro hR4 hT4))
      refine Lib.hid ?_
      clear r1 r2 r3 r4 r5 r6 hT4 hR4 hO3 hT3 h3 HS c0 c1
      go_wp2_with fail
      go_roundw
      case rel => exact ⟨j + 1, A2, c2, by omega, by go_num, rfl, HR.out⟩
      case measure => simp [intOf]; omega
    · have hjj : j = l.length := by omega
      have e5 : l.take j = l := List.take_of_length_le (by omega)
      have e6 : rkL mem (l.drop j) ++ t = t := by rw [List.drop_eq_nil_of_le (by omega)]; rfl
      rw [e5] at hO
      rw [e6] at hR
      clear e5 e6
      subst hjj
      have hw : ReadsPs w b l.length l t (.returned (.slice A' l.length c')) wr := ⟨A', c', rfl, hO, hR, hT⟩
      have HW := Lib.hid hw
      clear hw hO hR hT
      go_wp2
      go_ret
      exact HW.out
end Go.Proofs.YtjmkecaljkcoiaaDoor
namespace Go.Proofs.YtjmkecaljkcoiaaDoor
open Go.RowKit Go.Maps
set_option linter.unusedVariables false
set_option linter.unusedSimpArgs false

/-- Where Get stands: what it has read so far, and its own two variables. -/
structure GetS (w W : World) (b : Nat) (rest : List UInt8) (y : Vw) : Prop where
  v : VAt W (w.heap.size + 1) y
  z : VAt W w.heap.size zeroX
  own : VwOwn W (w.heap.size + 1 + 1) y
  rd : RdAt W b rest 0
  turn : Turn w W b none
  sz : w.heap.size + 1 + 1 ≤ W.heap.size
theorem VwOwn.turnLow {w w' : World} {base b : Nat} {x : Vw} (h : VwOwn w base x) (ht : Turn w w' b none) (hb : b < base) : VwOwn w' base x :=
  ⟨OwnE.turnLow h.ms ht hb, OwnE.turnLow h.lv ht hb, fun y hy => OwnE.turnLow (h.each y hy) ht hb, OwnE.turnLow h.dr ht hb⟩
theorem VwOwn.setFar {w : World} {base : Nat} {x : Vw} (h : VwOwn w base x) {a : Addr} (u : Value) (ha : a.block < base) : VwOwn (w.setCell a u) base x :=
  ⟨OwnE.set_far h.ms u ha, OwnE.set_far h.lv u ha, fun y hy => OwnE.set_far (h.each y hy) u ha, OwnE.set_far h.dr u ha⟩
section
variable {w W W' : World} {b : Nat} {rest rest' : List UInt8} {y : Vw}
theorem GetS.read (h : GetS w W b rest y) (hb : b < w.heap.size) (ht : Turn W W' b none) (hr : RdAt W' b rest' 0) : GetS w W' b rest' y :=
  ⟨h.v.turn ht (by omega) (by simp), h.z.turn ht (by omega) (by simp), h.own.turnLow ht (by omega), hr, h.turn.trans ht (Mov.refl _ _), Nat.le_trans h.sz ht.size⟩
theorem GetS.start (hb : b < w.heap.size) (h : RdAt w b rest 0) : GetS w ((w.alloc (.cells #[.int .u64 0, .slice none 0 0, .slice none 0 0, .slice none 0 0] 33)).alloc (.cells #[.int .u64 0, .slice none 0 0, .slice none 0 0, .slice none 0 0] 33)) b rest zeroX := by
  have v1 := VAt.mk_ (w.alloc (.cells #[.int .u64 0, .slice none 0 0, .slice none 0 0, .slice none 0 0] 33)) zeroX
  rw [World.size_alloc] at v1
  exact ⟨v1, (VAt.mk_ w zeroX).alloc _, zeroX_own _ _, (h.alloc _).alloc _, ((Turn.refl w b none).alloc _).alloc _, by simp⟩
theorem GetS.put0 (h : GetS w W b rest y) (hb : b < w.heap.size) (id : Nat) : GetS w (W.setCell ⟨w.heap.size + 1, 0, none⟩ (.int .u64 (id : Int))) b rest ⟨id, y.A, y.m, y.c, y.l, y.B, y.d, y.e, y.q, y.C, y.f, y.g, y.r⟩ :=
  ⟨heap_setCell_same W (w.heap.size + 1) 0 _ _ _ h.v, h.z.far _ (by simp), ⟨(h.own.setFar _ (by simp)).ms, (h.own.setFar _ (by simp)).lv, (h.own.setFar _ (by simp)).each, (h.own.setFar _ (by simp)).dr⟩, h.rd.other (by simp; omega) _, h.turn.setNew (by simp) _, by simp; exact h.sz⟩
theorem GetS.put1 (h : GetS w W b rest y) (hb : b < w.heap.size) {A : Option Addr} {m c : Nat} {l : List Pr} (ho : OwnE 25 prC 2 W (w.heap.size + 1 + 1) (.slice A m c) m l) : GetS w (W.setCell ⟨w.heap.size + 1, 1, none⟩ (.slice A m c)) b rest ⟨y.id, A, m, c, l, y.B, y.d, y.e, y.q, y.C, y.f, y.g, y.r⟩ :=
  ⟨h.v.set1 A m c l, h.z.far _ (by simp), ⟨OwnE.set_far ho _ (by simp), (h.own.setFar _ (by simp)).lv, (h.own.setFar _ (by simp)).each, (h.own.setFar _ (by simp)).dr⟩, h.rd.other (by simp; omega) _, h.turn.setNew (by simp) _, by simp; exact h.sz⟩
theorem GetS.put3 (h : GetS w W b rest y) (hb : b < w.heap.size) {A : Option Addr} {m c : Nat} {l : List Pr} (ho : OwnE 25 prC 2 W (w.heap.size + 1 + 1) (.slice A m c) m l) : GetS w (W.setCell ⟨w.heap.size + 1, 3, none⟩ (.slice A m c)) b rest ⟨y.id, y.A, y.m, y.c, y.l, y.B, y.d, y.e, y.q, A, m, c, l⟩ :=
  ⟨h.v.set3 A m c l, h.z.far _ (by simp), ⟨(h.own.setFar _ (by simp)).ms, (h.own.setFar _ (by simp)).lv, (h.own.setFar _ (by simp)).each, OwnE.set_far ho _ (by simp)⟩, h.rd.other (by simp; omega) _, h.turn.setNew (by simp) _, by simp; exact h.sz⟩
/-- A leaf that was read is put behind the others: its slice lies in a block of its own, then the row of leaves grows. -/
theorem GetS.leaf (h : GetS w W b rest y) (hb : b < w.heap.size) {A : Option Addr} {m c : Nat} {l : List Pr} (ho : OwnE 25 prC 2 W (w.heap.size + 1 + 1) (.slice A m c) m l) {T : TypeId} {W4 : World} {B2 : Option Addr} {n2 e2 : Nat}
    (hg : (W.alloc (.cells #[.slice A m c] T)).grownBy W4 (Value.slice y.B y.d y.e).ownBlock) (hn : OwnE 30 lfC 1 W4 (w.heap.size + 1 + 1) (.slice B2 n2 e2) n2 (y.q ++ [⟨A, m, c, l⟩])) :
    GetS w (W4.setCell ⟨w.heap.size + 1, 2, none⟩ (.slice B2 n2 e2)) b rest ⟨y.id, y.A, y.m, y.c, y.l, B2, n2, e2, y.q ++ [⟨A, m, c, l⟩], y.C, y.f, y.g, y.r⟩ := by
  have hl : Below W.heap.size W (W.alloc (.cells #[.slice A m c] T)) := (Below.refl _ _).alloc (Nat.le_refl _) _
  have o1 := h.own.later hl
  have hne : ∀ g, (Value.slice y.B y.d y.e).ownBlock = some g → w.heap.size + 1 + 1 ≤ g := fun g hg => (OwnE.lt h.own.lv g hg).1
  have k1 := OwnE.kept_by o1.lv o1.ms (by decide) hg
  have k2 := OwnE.kept_by o1.lv o1.dr (by decide) hg
  have k3 := OwnE.kept_by o1.lv (OwnE.later ho hl) (by decide) hg
  have hs := h.sz
  have hs1 := hl.size
  have v4 : VAt W4 (w.heap.size + 1) y := (hg.block _ (by omega) (fun e => by have := hne _ e.symm; omega)).trans (h.v.later hl)
  have z4 : VAt W4 w.heap.size zeroX := (hg.block _ (by omega) (fun e => by have := hne _ e.symm; omega)).trans (h.z.later hl)
  refine ⟨v4.set2 B2 n2 e2 _, z4.far _ (by simp), ⟨OwnE.set_far k1 _ (by simp), OwnE.set_far hn _ (by simp), fun u hu => ?_, OwnE.set_far k2 _ (by simp)⟩, ((h.rd.alloc _).grown hg (fun g e => by have := hne g e; omega)).other (by simp; omega) _, ((h.turn.alloc _).grownNew hg (fun g e => by have := hne g e; omega)).setNew (by simp) _, ?_⟩
  · dsimp only at hu
    rw [List.mem_append, List.mem_singleton] at hu
    rcases hu with hu | rfl
    · exact OwnE.set_far (OwnE.kept_by o1.lv (o1.each u hu) (by decide) hg) _ (by simp)
    · exact OwnE.set_far k3 _ (by simp)
  · have := hg.size
    simp
    omega
end
end Go.Proofs.YtjmkecaljkcoiaaDoor
