import Derived.Test.YtjmkecaljkcoiaaGreatDoorQView4
import Derived.Test.YtjmkecaljkcoiaaGreatDoorQOpenV
import Derived.Test.YtjmkecaljkcoiaaGreatDoorQFlowA
import Derived.Test.YtjmkecaljkcoiaaGreatDoorQGet1
import Derived.Test.YtjmkecaljkcoiaaGreatDoorQWr1
import Derived.Defers
import Derived.Tactics
import Derived.Tactics2
import Derived.Laws.Pointers
import Derived.Deep.WholeRow
import Derived.Deep.RegionHeld3
import Derived.IntWalk
namespace Go.Proofs.YtjmkecaljkcoiaaGreatDoor
open Go.RowKit Go.Maps
set_option linter.unusedVariables false
set_option linter.unusedSimpArgs false
def rkL (mem : List Pr) : List Pr → List UInt8
  | [] => []
  | p :: l => shortL (plc mem p) ++ rkL mem l
theorem rkL_append (mem : List Pr) : ∀ l m : List Pr, rkL mem (l ++ m) = rkL mem l ++ rkL mem m
  | [], m => rfl
  | p :: l, m => by rw [List.cons_append, rkL, rkL, rkL_append mem l m, List.append_assoc]
theorem rkL_take (mem : List Pr) {l : List Pr} {j : Nat} (h : j < l.length) : rkL mem (l.take (j + 1)) = rkL mem (l.take j) ++ shortL (plc mem l[j]) := by
  rw [List.take_succ_eq_append_getElem h, rkL_append]
  simp [rkL]
theorem rkL_len (mem : List Pr) : ∀ l : List Pr, (rkL mem l).length ≤ 10 * l.length
  | [] => Nat.le_refl _
  | p :: l => by
    have h1 := rkL_len mem l
    have h2 := (shortL_len (plc mem p)).2
    rw [rkL, List.length_append, List.length_cons]
    omega
def someL (mem l : List Pr) : List UInt8 := shortL l.length ++ rkL mem l
theorem someL_len (mem l : List Pr) : (someL mem l).length ≤ 10 + 10 * l.length := by
  have h1 := rkL_len mem l
  have h2 := (shortL_len l.length).2
  unfold someL
  rw [List.length_append]
  omega
def lvsL (mem : List Pr) : List (List Pr) → List UInt8
  | [] => []
  | l :: r => someL mem l ++ lvsL mem r
theorem lvsL_append (mem : List Pr) : ∀ l m : List (List Pr), lvsL mem (l ++ m) = lvsL mem l ++ lvsL mem m
  | [], m => rfl
  | p :: l, m => by rw [List.cons_append, lvsL, lvsL, lvsL_append mem l m, List.append_assoc]
theorem lvsL_take (mem : List Pr) {l : List (List Pr)} {j : Nat} (h : j < l.length) : lvsL mem (l.take (j + 1)) = lvsL mem (l.take j) ++ someL mem l[j] := by
  rw [List.take_succ_eq_append_getElem h, lvsL_append]
  simp [lvsL]
theorem lvsL_len (mem : List Pr) : ∀ l : List (List Pr), (∀ a ∈ l, a.length ≤ 40) → (lvsL mem l).length ≤ 410 * l.length
  | [], _ => Nat.le_refl _
  | p :: l, h => by
    have h1 := lvsL_len mem l (fun a ha => h a (List.mem_cons_of_mem _ ha))
    have h2 := someL_len mem p
    have h3 := h p (List.mem_cons_self ..)
    rw [lvsL, List.length_append, List.length_cons]
    omega
def viewL (v : Vi) : List UInt8 := shortL v.id ++ ((shortL v.mem.length ++ pidsL v.mem) ++ (shortL v.lvs.length ++ (lvsL v.mem v.lvs ++ someL v.mem v.ldr)))
theorem PlaceP.keep {w w' : World} {b n : Nat} {l : List Pr} (h : PlaceP w b n l) (hk : w'.heap[b]? = w.heap[b]?) : PlaceP w' b n l := by
  obtain ⟨D, ⟨es, clock, hb, r⟩, h2⟩ := h
  exact ⟨D, ⟨es, clock, hk.trans hb, r⟩, h2⟩
theorem PlaceP.lt {w : World} {b n : Nat} {l : List Pr} (h : PlaceP w b n l) : b < w.heap.size := by
  obtain ⟨D, h1, _⟩ := h
  exact h1.lt
theorem PlaceP.turn {w w' : World} {b n bb : Nat} {mg : Option Nat} {l : List Pr} (h : PlaceP w b n l) (ht : Turn w w' bb mg) (h1 : b ≠ bb) (h2 : some b ≠ mg) : PlaceP w' b n l :=
  h.keep (ht.block b h.lt h1 h2)
set_option maxRecDepth 100000 in
theorem PlaceP.run_ {w : World} {b n : Nat} {l : List Pr} (h : PlaceP w b n l) (p : Pr) (hp : p ∈ l) :
    (Instr.lookup 124 (.map (some b)) (.agg #[.int .u16 p.i, .int .u32 p.k]) false).run Tryz.prog w = .ok (.int .i64 (plc l p : Nat)) w := by
  obtain ⟨D, h1, h2, _⟩ := h
  obtain ⟨c, hrun, hat, _⟩ := h1.lookup_int lawPid Tryz.underlying124 underIntP (zeroIntP _) (key_pr p)
  rw [(h2 p).2, show plc0 l p = plc l p from if_pos hp] at hat
  injection hat with hat
  injection hat with _ hat
  rw [hrun, hat]
theorem Mov.ne {w : World} {mg mg' : Option Nat} {g : Nat} (h : Mov w mg mg') (h1 : some g ≠ mg) (h2 : g < w.heap.size) : some g ≠ mg' := by
  rcases h with rfl | ⟨g', rfl, hg⟩
  · exact h1
  · intro e
    injection e with e
    omega
set_option maxRecDepth 100000 in
set_option maxHeartbeats 4000000 in
theorem put1_any (base b pw pm mb N B : Nat) (mg : Option Nat) (L : List UInt8) (mem l : List Pr) (A : Option Addr) (n c : Nat) (w : World) (h : WrAt w base b mg L) (hbase : base ≤ w.heap.size) (hn : L.length ≤ 9000000)
    (hA : Es prC w B A n l) (hB : B ≤ base) (hm : n ≤ 1000) (hmem : ∀ p ∈ l, p ∈ mem) (hsm : mem.length ≤ 1000)
    (cw : w.cell? ⟨pw, 0, none⟩ = some (.pointer (some ⟨b, 0, none⟩))) (cm : w.cell? ⟨pm, 0, none⟩ = some (.map (some mb))) (hpl : PlaceP w mb N mem)
    (f1 : pw ≠ b ∧ some pw ≠ mg) (f2 : pm ≠ b ∧ some pm ≠ mg) (f3 : mb ≠ b ∧ some mb ≠ mg) :
    Calls Tryz.prog 201 #[.slice A n c, .pointer (some ⟨pw, 0, none⟩), .pointer (some ⟨pm, 0, none⟩)] w (WroteP w base b mg (L ++ someL mem l)) := by
  have wr1 : IntKind.u64.wrap (n : Int) = (n : Int) := by rw [IntKind.wrap_u64]; omega
  have hlen := hA.len
  have hsl := (shortL_len n).2
  have hpwlt : pw < w.heap.size := World.block_lt_of_cell? w _ cw
  have hpmlt : pm < w.heap.size := World.block_lt_of_cell? w _ cm
  have hmblt := hpl.lt
  have HL := hide (And.intro hlen hmem)
  have HN := hide (And.intro f1 (And.intro f2 f3))
  clear hlen hmem
  go_enter Tryz.func201, Tryz.ntmps201
  go_wp2_with fail
  refine (wnum_any base b mg L n w h hbase (by omega) (by omega)).mono ?_
  rintro e w2 ⟨rfl, mg2, h2, ht2, hm2⟩
  have H0 : WrAt w2 base b mg2 (L ++ (shortL n ++ rkL mem (l.take 0))) := by simpa [rkL] using h2
  clear f1 f2 f3
  go_wp2
  go_loopw [13] (fun i wr => ∃ j : Nat, j ≤ n ∧ i = .int .i64 j ∧ ∃ mg', WrAt wr base b mg' (L ++ (shortL n ++ rkL mem (l.take j))) ∧ Turn w wr b mg ∧ Mov w mg mg') (fun i _ => n - (intOf i).toNat)
  case atStart => exact ⟨0, Nat.zero_le _, rfl, mg2, H0, ht2, hm2⟩
  case round =>
    obtain ⟨j, hj, rfl, mg', h', ht', hm'⟩ := hrel
    clear h2 ht2 hm2 H0
    by_cases hlt : j < n
    · obtain ⟨ad, hl, rfl, hbl, hc⟩ := (hA.below ((h.turned ht' hbase).mono hB)).at_ prOk hlt
      obtain ⟨q, hq⟩ : ∃ q, q = l[j] := ⟨_, rfl⟩
      have hqm : q ∈ mem := by rw [hq]; exact HL.out.2 _ (List.getElem_mem hl)
      have hstep := rkL_take mem hl
      rw [← hq] at hc hstep
      obtain ⟨c0, c1⟩ := pr_at hc
      have hs' := ht'.size
      have b1 := ht'.cell cw HN.out.1.1 HN.out.1.2
      have b2 := ht'.cell cm HN.out.2.1.1 HN.out.2.1.2
      have b3 := hpl.turn ht' HN.out.2.2.1 HN.out.2.2.2
      have hk1 := plc_lt hqm
      have hw2 : IntKind.u64.wrap (plc mem q : Int) = (plc mem q : Int) := by rw [IntKind.wrap_u64]; omega
      have b4 := b3.alloc (.cells #[.int .u16 q.i, .int .u32 q.k] 44)
      have n1 := fun W (hb : Below (wr.alloc (.cells #[.int .u16 q.i, .int .u32 q.k] 44)).heap.size (wr.alloc (.cells #[.int .u16 q.i, .int .u32 q.k] 44)) W) => (b4.later hb).run_ q hqm
      have hb1 : Below wr.heap.size wr (wr.alloc (.cells #[.int .u16 q.i, .int .u32 q.k] 44)) := (Below.refl _ _).alloc (Nat.le_refl _) _
      have d1 := cellL b1 hb1
      have d2 := cellL b2 hb1
      have d3 : (wr.alloc (.cells #[.int .u16 q.i, .int .u32 q.k] 44)).cell? ⟨wr.heap.size, 0, none⟩ = some (.int .u16 q.i) := by go_simp
      have d4 : (wr.alloc (.cells #[.int .u16 q.i, .int .u32 q.k] 44)).cell? ⟨wr.heap.size, 1, none⟩ = some (.int .u32 q.k) := by go_simp
      have k1 := fun W (hb : Below (wr.alloc (.cells #[.int .u16 q.i, .int .u32 q.k] 44)).heap.size (wr.alloc (.cells #[.int .u16 q.i, .int .u32 q.k] 44)) W) => And.intro (cellL d1 hb) (And.intro (cellL d2 hb) (And.intro (cellL d3 hb) (cellL d4 hb)))
      have hl2 : (L ++ (shortL n ++ rkL mem (l.take j))).length ≤ 10000000 := by
        have h1 := rkL_len mem (l.take j)
        have h2 : (l.take j).length ≤ j := List.length_take_le _ _
        rw [List.length_append, List.length_append]
        omega
      have HS := hide (And.intro hstep (And.intro hl2 hk1))
      generalize plc mem q = r at *
      clear hq hstep hl2 hk1 b1 b2 b3 b4 d1 d2 d3 d4 hbl hc
      go_wp2_with fail
      refine wp_region_flow_tail 5 (by kernel_rfl) (by kernel_rfl) (by kernel_rfl) ?_
      simp only [List.take_succ_cons, List.take_zero, List.drop_succ_cons, List.drop_zero]
      refine flow_pure (.pointer (some ⟨b, 0, none⟩)) rfl ?_ ?_
      · intro ρ w8 hr hw hf
        obtain ⟨h6, h7, h8, h9⟩ := k1 w8 hw
        try simp [Oper.looksAt, Op.operands, Call.operands, tput, frameW, Act.eval] at hf
        go_simp
      refine flow_pure (.map (some mb)) rfl ?_ ?_
      · intro ρ w8 hr hw hf
        obtain ⟨h6, h7, h8, h9⟩ := k1 w8 hw
        try simp [Oper.looksAt, Op.operands, Call.operands, tput, frameW, Act.eval] at hf
        go_simp
      refine flow_pure (.agg #[.int .u16 q.i, .int .u32 q.k]) rfl ?_ ?_
      · intro ρ w8 hr hw hf
        obtain ⟨h6, h7, h8, h9⟩ := k1 w8 hw
        try simp [Oper.looksAt, Op.operands, Call.operands, tput, frameW, Act.eval] at hf
        go_simp
      refine flow_pure (.int .i64 r) rfl ?_ ?_
      · intro ρ w8 hr hw hf
        have h8 := n1 w8 hw
        try simp [Oper.looksAt, Op.operands, Call.operands, tput, frameW, Act.eval] at hf
        go_simp
      refine flow_val rfl ?_
      apply Exists.intro
      apply And.intro
      · intro ρ w8 hr hf
        have r1 := hr.const
        have r2 := hr.func
        try simp [Oper.looksAt, Op.operands, Call.operands, tput, frameW, Act.eval] at hf
        go_simp
        try rfl
      refine flow_nil ?_
      intro f9 w9 hb9 hf
      have g0 := hf 0; simp [tput, frameW, Act.eval] at g0
      have g1 := hf 1; simp [tput, frameW, Act.eval] at g1
      have g2 := hf 2; simp [tput, frameW, Act.eval] at g2
      have g3 := hf 3; simp [tput, frameW, Act.eval] at g3
      have g4 := hf 4; simp [tput, frameW, Act.eval] at g4
      have g6 := hf 6; simp [tput, frameW, Act.eval] at g6
      have g7 := hf 7; simp [tput, frameW, Act.eval] at g7
      have g8 := hf 8; simp [tput, frameW, Act.eval] at g8
      have g9 := hf 9; simp [tput, frameW, Act.eval] at g9
      have g10 := hf 10; simp [tput, frameW, Act.eval] at g10
      have g11 := hf 11; simp [tput, frameW, Act.eval] at g11
      have g12 := hf 12; simp [tput, frameW, Act.eval] at g12
      have g13 := hf 13; simp [tput, frameW, Act.eval] at g13
      have g17 := hf 17; simp [tput, frameW, Act.eval] at g17
      have g21 := hf 21; simp [tput, frameW, Act.eval] at g21
      rw [show frameOf f9 _ _ = ⟨#[f9 0, f9 1, f9 2, f9 3, f9 4, f9 5, f9 6, f9 7, f9 8, f9 9, f9 10, f9 11, f9 12, f9 13, f9 14, f9 15, f9 16, f9 17, f9 18, f9 19, f9 20, f9 21, f9 22, f9 23], []⟩ from rfl, g0, g1, g2, g3, g4, g6, g7, g8, g9, g10, g11, g12, g13, g17, g21]
      have hb2 : Below wr.heap.size wr w9 := hb1.trans (hb9.mono hb1.size)
      clear hf n1 k1 c0 c1
      go_wp2_with fail
      refine (wnum_any base b mg' _ r w9 (h'.later hb2) (Nat.le_trans hbase (Nat.le_trans hs' hb2.size)) HS.out.2.1 (by have := HS.out.2.2; omega)).mono ?_
      rintro e w3 ⟨rfl, mg3, h3, ht3, hm3⟩
      rw [List.append_assoc, List.append_assoc, ← HS.out.1] at h3
      have hm3' : Mov wr mg' mg3 := by
        rcases hm3 with rfl | ⟨g, rfl, hg⟩
        · exact .inl rfl
        · exact .inr ⟨g, rfl, Nat.le_trans hb2.size hg⟩
      obtain ⟨ht4, hm4⟩ := Turn.two ht' hm' (Turn.ahead hb2 ht3) hm3'
      clear hb1 hb2 hb9 h' ht' hm' ht3 hm3 hm3'
      go_wp2
      go_roundw
      case rel => exact ⟨j + 1, by omega, by go_num, mg3, h3, ht4, hm4⟩
      case measure => simp [intOf]; omega
    · have e : l.take j = l := List.take_of_length_le (by rw [HL.out.1]; omega)
      rw [e] at h'
      have hw : WroteP w base b mg (L ++ someL mem l) (.returned (.tuple #[])) wr := ⟨rfl, mg', by unfold someL; rw [HL.out.1]; exact h', ht', hm'⟩
      have HW := Lib.hid hw
      clear e h' ht' hm' hw
      go_wp2
      first | go_end0 | refine bodyPost_ret (results_none rfl _ _ _) rfl ?_
      exact HW.out
end Go.Proofs.YtjmkecaljkcoiaaGreatDoor
namespace Go.Proofs.YtjmkecaljkcoiaaGreatDoor
open Go.RowKit
set_option linter.unusedVariables false
set_option linter.unusedSimpArgs false
def RdSl (w : World) (b : Nat) (A : Option Addr) (c : Nat) (l : List UInt8) (t : Nat) : Prop :=
  w.heap[b]? = some (.cells #[.slice A l.length c, .int .i64 t] 149 (0, 0)) ∧ Bs w b A l.length l ∧ l.length ≤ c ∧ c ≤ maxLen
def RdAt (w : World) (b : Nat) (l : List UInt8) (t : Nat) : Prop := ∃ A c, RdSl w b A c l t
section
variable {w w' : World} {b b' c t : Nat} {mg : Option Nat} {A : Option Addr} {l : List UInt8}
theorem RdSl.lt (h : RdSl w b A c l t) : b < w.heap.size := lt_of_heap h.1
theorem RdSl.cells (h : RdSl w b A c l t) : w.cell? ⟨b, 0, none⟩ = some (.slice A l.length c) ∧ w.cell? ⟨b, 1, none⟩ = some (.int .i64 t) := by
  have hf : ∀ y, w.cell? ⟨b, y, none⟩ = (#[.slice A l.length c, .int .i64 t] : Array Value)[y]? := by
    intro y
    have h1 := h.1
    simp [World.cell?, h1]
  exact ⟨hf 0, hf 1⟩
theorem RdSl.frozen (h : RdSl w b A c l t) (y : Nat) : w.frozen? ⟨b, y, none⟩ = false := frozen_of_row w b y _ _ h.1
theorem RdSl.keep (h : RdSl w b A c l t) (hk : ∀ i, i ≤ b → w'.heap[i]? = w.heap[i]?) : RdSl w' b A c l t :=
  ⟨(hk b (Nat.le_refl _)).trans h.1, h.2.1.keep fun p hp => World.cell?_of_block (hk p.block (by omega)), h.2.2⟩
theorem RdSl.later (h : RdSl w b A c l t) (hb : Below w.heap.size w w') : RdSl w' b A c l t := h.keep fun i hi => hb.block i (by have := h.lt; omega)
theorem RdSl.turn (h : RdSl w b A c l t) (ht : Turn w w' b' mg) (h1 : b < b') (h2 : ∀ g, mg = some g → b < g) : RdSl w' b A c l t :=
  h.keep fun i hi => ht.block i (by have := h.lt; omega) (by omega) fun e => by have := h2 i e.symm; omega
theorem RdSl.other (h : RdSl w b A c l t) {p : Addr} (hp : b < p.block) (u : Value) : RdSl (w.setCell p u) b A c l t := h.keep fun i hi => Below.heap_setCell w p u i (by omega)
theorem RdSl.alloc (h : RdSl w b A c l t) (o : Obj) : RdSl (w.alloc o) b A c l t := h.later ((Below.refl _ _).alloc (Nat.le_refl _) o)
theorem RdSl.set0 (h : RdSl w b A c l t) {A' : Option Addr} {c' : Nat} {l' : List UInt8} (hA : Bs w b A' l'.length l') (h1 : l'.length ≤ c') (h2 : c' ≤ maxLen) : RdSl (w.setCell ⟨b, 0, none⟩ (.slice A' l'.length c')) b A' c' l' t := by
  refine ⟨?_, hA.setCell (p := ⟨b, 0, none⟩) (Nat.le_refl _) _, h1, h2⟩
  have := heap_setCell_same w b 0 _ _ (.slice A' l'.length c') h.1
  rw [this]
  rfl
theorem RdSl.set1 (h : RdSl w b A c l t) (t' : Nat) : RdSl (w.setCell ⟨b, 1, none⟩ (.int .i64 t')) b A c l t' := by
  refine ⟨?_, h.2.1.setCell (p := ⟨b, 1, none⟩) (Nat.le_refl _) _, h.2.2⟩
  have := heap_setCell_same w b 1 _ _ (.int .i64 t') h.1
  rw [this]
  rfl
theorem RdSl.at_ (h : RdSl w b A c l t) : RdAt w b l t := ⟨A, c, h⟩
theorem RdAt.lt (h : RdAt w b l t) : b < w.heap.size := by obtain ⟨A, c, h⟩ := h; exact h.lt
theorem RdAt.later (h : RdAt w b l t) (hb : Below w.heap.size w w') : RdAt w' b l t := by obtain ⟨A, c, h⟩ := h; exact ⟨A, c, h.later hb⟩
theorem RdAt.turn (h : RdAt w b l t) (ht : Turn w w' b' mg) (h1 : b < b') (h2 : ∀ g, mg = some g → b < g) : RdAt w' b l t := by obtain ⟨A, c, h⟩ := h; exact ⟨A, c, h.turn ht h1 h2⟩
theorem RdAt.other (h : RdAt w b l t) {p : Addr} (hp : b < p.block) (u : Value) : RdAt (w.setCell p u) b l t := by obtain ⟨A, c, h⟩ := h; exact ⟨A, c, h.other hp u⟩
theorem RdAt.alloc (h : RdAt w b l t) (o : Obj) : RdAt (w.alloc o) b l t := by obtain ⟨A, c, h⟩ := h; exact ⟨A, c, h.alloc o⟩
end
def ReadsP (w : World) (b : Nat) (v : Value) (l : List UInt8) (t : Nat) (e : Ending) (w' : World) : Prop := e = .returned v ∧ RdAt w' b l t ∧ Turn w w' b none
def endF (l : List UInt8) (t : Nat) : Nat := if t = 0 then (if l.length = 0 then 0 else 5) else t
def mostF (m : Int) : Nat := m.toNat
def ReadP (w : World) (l : List UInt8) (e : Ending) (w' : World) : Prop := ∃ b, e = .returned (.pointer (some ⟨b, 0, none⟩)) ∧ w.heap.size ≤ b ∧ RdAt w' b l 0 ∧ Below w.heap.size w w'
end Go.Proofs.YtjmkecaljkcoiaaGreatDoor
namespace Go.Proofs.YtjmkecaljkcoiaaGreatDoor
open Go.RowKit
set_option linter.unusedVariables false
set_option linter.unusedSimpArgs false
def Blk (w : World) (p : Nat) (cs : Array Value) (T : TypeId) : Prop := w.heap[p]? = some (.cells cs T (0, 0))
theorem Blk.cell {w : World} {p : Nat} {cs : Array Value} {T : TypeId} (h : Blk w p cs T) (i : Nat) : w.cell? ⟨p, i, none⟩ = cs[i]? := by
  unfold Blk at h
  simp [World.cell?, h]
section
variable {w w' : World} {p b : Nat} {mg : Option Nat} {cs : Array Value} {T : TypeId}
theorem Blk.lt (h : Blk w p cs T) : p < w.heap.size := lt_of_heap h
theorem Blk.turn (h : Blk w p cs T) (ht : Turn w w' b mg) (h1 : p ≠ b) (h2 : some p ≠ mg) : Blk w' p cs T := (ht.block p h.lt h1 h2).trans h
theorem Blk.later (h : Blk w p cs T) (hb : Below w.heap.size w w') : Blk w' p cs T := (hb.block p h.lt).trans h
theorem Blk.other (h : Blk w p cs T) {q : Addr} (hq : q.block ≠ p) (u : Value) : Blk (w.setCell q u) p cs T := (Below.heap_setCell w q u p (fun e => hq e.symm)).trans h
theorem Blk.set_ (h : Blk w p cs T) (i : Nat) (u : Value) : Blk (w.setCell ⟨p, i, none⟩ u) p (cs.setIfInBounds i u) T := by
  have := heap_setCell_same w p i cs _ u h
  simpa [Blk] using this
theorem Blk.frozen (h : Blk w p cs T) (i : Nat) : w.frozen? ⟨p, i, none⟩ = false := frozen_of_row w p i _ _ h
end
def CloP (w : World) (b : Nat) (F G : Value → World → Prop) (lr : List UInt8) (t : Nat) (e : Ending) (w' : World) : Prop :=
  ∃ v l', e = .returned v ∧ F v w' ∧ RdAt w' b l' t ∧ Turn w w' b none ∧ (t = 0 → l' = lr ∧ G v w')
def WholeG (w : World) (b : Nat) (z : Value) (G : Value → World → Prop) (l lr : List UInt8) (t : Nat) (e : Ending) (w' : World) : Prop :=
  (t = 0 ∧ ∃ v, e = .returned v ∧ G v w' ∧ RdAt w' b lr 0 ∧ Turn w w' b none) ∨ (t ≠ 0 ∧ e = .returned z ∧ RdAt w' b l t ∧ Turn w w' b none)
theorem WholeG.ahead {w w1 : World} {b : Nat} {z : Value} {G : Value → World → Prop} {l lr : List UInt8} {t : Nat} {e : Ending} {w' : World} (hb : Below w.heap.size w w1) (h : WholeG w1 b z G l lr t e w') : WholeG w b z G l lr t e w' := by
  rcases h with ⟨h1, v, h2, h3, h4, h5⟩ | ⟨h1, h2, h3, h4⟩
  · exact .inl ⟨h1, v, h2, h3, h4, Turn.ahead hb h5⟩
  · exact .inr ⟨h1, h2, h3, Turn.ahead hb h4⟩
end Go.Proofs.YtjmkecaljkcoiaaGreatDoor
namespace Go.Proofs.YtjmkecaljkcoiaaGreatDoor
open Go.RowKit
set_option linter.unusedVariables false
set_option linter.unusedSimpArgs false
def numE (l : List UInt8) (most : Nat) : Nat := if (getF l).2.2 = 0 then (if most < (getF l).1 then 3 else 0) else (getF l).2.2
def Num1P (w : World) (b : Nat) (l : List UInt8) (most : Nat) : Ending → World → Prop := CloP w b (fun v _ => ∃ (n : Nat), v = .int .u64 n) (fun v _ => v = .int .u64 ((getF l).1 : Nat)) (l.drop (getF l).2.1) (numE l most)
theorem CloP.num {w : World} {b : Nat} {l : List UInt8} {most n k t v : Nat} {l' : List UInt8} {e : Ending} {w' : World} (h1 : getF l = (n, k, t)) (h2 : v = numE l most) (h3 : ReadsP w b (.int .u64 n) l' v e w') (h4 : v = 0 → l' = l.drop k) :
    Num1P w b l most e w' := by
  subst h2
  obtain ⟨he, hR, hT⟩ := h3
  refine ⟨_, l', he, ⟨n, rfl⟩, hR, hT, fun ht => ⟨?_, ?_⟩⟩
  · rw [h1]; exact h4 ht
  · rw [h1]
def truE (l : List UInt8) : Nat := match l with | [] => 2 | x :: _ => if 1 < x.toNat then 5 else 0
def truV (l : List UInt8) : Bool := match l with | [] => false | x :: _ => decide (x.toNat = 1)
def Pid1P (w : World) (b : Nat) (l : List UInt8) : Ending → World → Prop := CloP w b (fun v _ => ∃ (i k : Nat), v = .agg #[.int .u16 i, .int .u32 k]) (fun v _ => v = .agg #[.int .u16 ((pidG l).1 : Nat), .int .u32 ((pidG l).2.1 : Nat)]) (l.drop (pidG l).2.2.1) (pidG l).2.2.2
end Go.Proofs.YtjmkecaljkcoiaaGreatDoor
namespace Go.Proofs.YtjmkecaljkcoiaaGreatDoor
open Go.RowKit
set_option linter.unusedVariables false
set_option linter.unusedSimpArgs false
def balE (l : List UInt8) : Nat := if numE l 4294967295 = 0 then (pidG (l.drop (getF l).2.1)).2.2.2 else numE l 4294967295
def Bal1P (w : World) (b : Nat) (l : List UInt8) : Ending → World → Prop := CloP w b (fun v _ => ∃ (r i k : Nat), v = .agg #[.int .u32 r, .int .u16 i, .int .u32 k]) (fun v _ => v = .agg #[.int .u32 (((getF l).1 : Nat) : Int), .int .u16 (((pidG (l.drop (getF l).2.1)).1 : Nat) : Int), .int .u32 (((pidG (l.drop (getF l).2.1)).2.1 : Nat) : Int)]) ((l.drop (getF l).2.1).drop (pidG (l.drop (getF l).2.1)).2.2.1) (balE l)
def bytE (l : List UInt8) (most : Nat) : Nat := if numE l most = 0 then (if (l.drop (getF l).2.1).length < (getF l).1 then 2 else 0) else numE l most
def bytV (l : List UInt8) : List UInt8 := (l.drop (getF l).2.1).take (getF l).1
def bytR (l : List UInt8) : List UInt8 := (l.drop (getF l).2.1).drop (getF l).1
def GB (base : Nat) (L : List UInt8) (v : Value) (w : World) : Prop := ∃ A c, v = .slice A L.length c ∧ OwnB w base (.slice A L.length c) L.length L
theorem OwnB.setLow {w : World} {base n : Nat} {v : Value} {l : List UInt8} (h : OwnB w base v n l) {p : Addr} (hp : p.block < base) (u : Value) : OwnB (w.setCell p u) base v n l := by
  refine ⟨h.1, ?_⟩
  rcases h.2 with h0 | ⟨g, cap, cur, rfl, hb, hh, r⟩
  · exact .inl h0
  · exact .inr ⟨g, cap, cur, rfl, hb, (Below.heap_setCell w p u g (by omega)).trans hh, r⟩
theorem GB.set_ {base : Nat} {L : List UInt8} {v : Value} {w : World} (h : GB base L v w) {p : Addr} (hp : p.block < base) (u : Value) : GB base L v (w.setCell p u) := by
  obtain ⟨A, c, e, h⟩ := h
  exact ⟨A, c, e, h.setLow hp u⟩
theorem GB.mono {base base' : Nat} {L : List UInt8} {v : Value} {w : World} (h : GB base L v w) (hb : base' ≤ base) : GB base' L v w := by
  obtain ⟨A, c, e, h⟩ := h
  exact ⟨A, c, e, h.mono hb⟩
def Byt1P (w : World) (b base : Nat) (l : List UInt8) (most : Nat) : Ending → World → Prop := CloP w b (fun v _ => ∃ (V : Option Addr) (m d : Nat), v = .slice V m d) (GB base (bytV l)) (bytR l) (bytE l most)
end Go.Proofs.YtjmkecaljkcoiaaGreatDoor
