import Derived.Test.YtjmkecaljkcoiaaDoorQPut1
import Derived.Test.YtjmkecaljkcoiaaDoorQWr1
namespace Go.Proofs.YtjmkecaljkcoiaaDoor
open Go.RowKit
set_option linter.unusedVariables false
set_option linter.unusedSimpArgs false
def RdSl (w : World) (b : Nat) (A : Option Addr) (c : Nat) (l : List UInt8) (t : Nat) : Prop :=
  w.heap[b]? = some (.cells #[.slice A l.length c, .int .i64 (t : Int)] 118 (0, 0)) ∧ Bs w b A l.length l ∧ l.length ≤ c ∧ c ≤ maxLen
def RdAt (w : World) (b : Nat) (l : List UInt8) (t : Nat) : Prop := ∃ A c, RdSl w b A c l t
section
variable {w w' : World} {b b' c t : Nat} {mg : Option Nat} {A : Option Addr} {l : List UInt8}
theorem RdSl.lt (h : RdSl w b A c l t) : b < w.heap.size := lt_of_heap h.1
theorem RdSl.cells (h : RdSl w b A c l t) : w.cell? ⟨b, 0, none⟩ = some (.slice A l.length c) ∧ w.cell? ⟨b, 1, none⟩ = some (.int .i64 (t : Int)) := by
  have hf : ∀ y, w.cell? ⟨b, y, none⟩ = (#[.slice A l.length c, .int .i64 (t : Int)] : Array Value)[y]? := by
    intro y
    have h1 := h.1
    simp [World.cell?, h1]
  exact ⟨hf 0, hf 1⟩
theorem RdSl.frozen (h : RdSl w b A c l t) (y : Nat) : w.frozen? ⟨b, y, none⟩ = false := frozen_of_row w b y _ _ h.1
theorem RdSl.keep (h : RdSl w b A c l t) (hk : ∀ i, i ≤ b → w'.heap[i]? = w.heap[i]?) : RdSl w' b A c l t :=
  ⟨(hk b (Nat.le_refl _)).trans h.1, h.2.1.keep fun p hp => World.cell?_of_block (hk p.block (by omega)), h.2.2⟩
theorem RdSl.later (h : RdSl w b A c l t) (hb : Below w.heap.size w w') : RdSl w' b A c l t := h.keep fun i hi => hb.block i (by have := h.lt; omega)
theorem RdSl.turn (h : RdSl w b A c l t) (ht : Turn w w' b' mg) (h1 : b < b') (h2 : ∀ g, mg = some g → b < g) : RdSl w' b A c l t :=
  h.keep fun i hi => ht.block i (by have := h.lt; omega) (by omega) fun e => by have := h2 i e.symm; omega
theorem RdSl.other (h : RdSl w b A c l t) {p : Addr} (hp : b < p.block) (u : Value) : RdSl (w.setCell p u) b A c l t := h.keep fun i hi => Below.heap_setCell w p u i (by omega)
theorem RdSl.alloc (h : RdSl w b A c l t) (o : Obj) : RdSl (w.alloc o) b A c l t := h.later ((Below.refl _ _).alloc (Nat.le_refl _) o)
theorem RdSl.set0 (h : RdSl w b A c l t) {A' : Option Addr} {c' : Nat} {l' : List UInt8} (hA : Bs w b A' l'.length l') (h1 : l'.length ≤ c') (h2 : c' ≤ maxLen) : RdSl (w.setCell ⟨b, 0, none⟩ (.slice A' l'.length c')) b A' c' l' t := by
  refine ⟨?_, hA.setCell (p := ⟨b, 0, none⟩) (Nat.le_refl _) _, h1, h2⟩
  have := heap_setCell_same w b 0 _ _ (.slice A' l'.length c') h.1
  rw [this]
  rfl
theorem RdSl.set1 (h : RdSl w b A c l t) (t' : Nat) : RdSl (w.setCell ⟨b, 1, none⟩ (.int .i64 (t' : Int))) b A c l t' := by
  refine ⟨?_, h.2.1.setCell (p := ⟨b, 1, none⟩) (Nat.le_refl _) _, h.2.2⟩
  have := heap_setCell_same w b 1 _ _ (.int .i64 (t' : Int)) h.1
  rw [this]
  rfl
theorem RdSl.at_ (h : RdSl w b A c l t) : RdAt w b l t := ⟨A, c, h⟩
theorem RdAt.lt (h : RdAt w b l t) : b < w.heap.size := by obtain ⟨A, c, h⟩ := h; exact h.lt
theorem RdAt.later (h : RdAt w b l t) (hb : Below w.heap.size w w') : RdAt w' b l t := by obtain ⟨A, c, h⟩ := h; exact ⟨A, c, h.later hb⟩
theorem RdAt.turn (h : RdAt w b l t) (ht : Turn w w' b' mg) (h1 : b < b') (h2 : ∀ g, mg = some g → b < g) : RdAt w' b l t := by obtain ⟨A, c, h⟩ := h; exact ⟨A, c, h.turn ht h1 h2⟩
theorem RdAt.other (h : RdAt w b l t) {p : Addr} (hp : b < p.block) (u : Value) : RdAt (w.setCell p u) b l t := by obtain ⟨A, c, h⟩ := h; exact ⟨A, c, h.other hp u⟩
theorem RdAt.alloc (h : RdAt w b l t) (o : Obj) : RdAt (w.alloc o) b l t := by obtain ⟨A, c, h⟩ := h; exact ⟨A, c, h.alloc o⟩
end
def ReadsP (w : World) (b : Nat) (v : Value) (l : List UInt8) (t : Nat) (e : Ending) (w' : World) : Prop := e = .returned v ∧ RdAt w' b l t ∧ Turn w w' b none
theorem err_any (b : Nat) (l : List UInt8) (t : Nat) (w : World) (h : RdAt w b l t) :
    Calls Tryd.prog 89 #[.pointer (some ⟨b, 0, none⟩)] w fun e w' => e = .returned (.int .i64 (t : Int)) ∧ w = w' := by
  obtain ⟨A, c, h⟩ := h
  obtain ⟨f0, f1⟩ := h.cells
  clear h
  go_enter Tryd.func89, Tryd.ntmps89
  go_wp2
  go_ret
  exact ⟨rfl, rfl⟩
theorem left_any (b : Nat) (l : List UInt8) (t : Nat) (w : World) (h : RdAt w b l t) :
    Calls Tryd.prog 90 #[.pointer (some ⟨b, 0, none⟩)] w fun e w' => e = .returned (.int .i64 (l.length : Int)) ∧ w = w' := by
  obtain ⟨A, c, h⟩ := h
  obtain ⟨f0, f1⟩ := h.cells
  have hm := h.2.2
  unfold maxLen at hm
  obtain ⟨hm1, hm2⟩ := hm
  clear h
  generalize l.length = n at *
  go_enter Tryd.func90, Tryd.ntmps90
  go_wp2
  go_ret
  exact ⟨rfl, rfl⟩
def endF (l : List UInt8) (t : Nat) : Nat := if t = 0 then (if l.length = 0 then 0 else 5) else t
theorem rdend_any (b : Nat) (l : List UInt8) (t : Nat) (w : World) (h : RdAt w b l t) :
    Calls Tryd.prog 51 #[.pointer (some ⟨b, 0, none⟩)] w fun e w' => e = .returned (.int .i64 (endF l t : Nat)) ∧ w = w' := by
  have ce := err_any b l t w h
  have cl := left_any b l t w h
  unfold endF
  by_cases ht : t = 0
  · subst ht
    by_cases hl : l.length = 0
    · rw [if_pos rfl, if_pos hl]
      rw [hl] at cl
      clear hl
      go_enter Tryd.func51, Tryd.ntmps51
      go_wp2_with fail
      refine ce.mono ?_
      rintro e w' ⟨rfl, rfl⟩
      go_wp2_with fail
      refine cl.mono ?_
      rintro e w' ⟨rfl, rfl⟩
      go_wp2
      go_ret
      exact ⟨rfl, rfl⟩
    · rw [if_pos rfl, if_neg hl]
      have hp : 0 < l.length := by omega
      generalize l.length = n at *
      clear hl
      go_enter Tryd.func51, Tryd.ntmps51
      go_wp2_with fail
      refine ce.mono ?_
      rintro e w' ⟨rfl, rfl⟩
      go_wp2_with fail
      refine cl.mono ?_
      rintro e w' ⟨rfl, rfl⟩
      go_wp2
      go_ret
      exact ⟨rfl, rfl⟩
  · rw [if_neg ht]
    have t1 : ((t : Int) != 0) = true := by simp; omega
    clear cl ht
    go_enter Tryd.func51, Tryd.ntmps51
    go_wp2_with fail
    refine ce.mono ?_
    rintro e w' ⟨rfl, rfl⟩
    go_wp2
    go_ret
    exact ⟨rfl, rfl⟩
theorem stop_any (b : Nat) (l : List UInt8) (t u : Nat) (w : World) (h : RdAt w b l t) :
    Calls Tryd.prog 95 #[.pointer (some ⟨b, 0, none⟩), .int .i64 (u : Int)] w (ReadsP w b (.tuple #[]) l (if t = 0 then u else t)) := by
  obtain ⟨A, c, h⟩ := h
  obtain ⟨f0, f1⟩ := h.cells
  have fz := h.frozen
  by_cases ht : t = 0
  · subst ht
    rw [if_pos rfl]
    have hz : ReadsP w b (.tuple #[]) l u (.returned (.tuple #[])) (w.setCell ⟨b, 1, none⟩ (.int .i64 (u : Int))) := ⟨rfl, (h.set1 u).at_, (Turn.refl w b none).set_ rfl _⟩
    have HZ := Lib.hid hz
    clear h hz
    go_enter Tryd.func95, Tryd.ntmps95
    go_wp2
    first | go_end0 | refine bodyPost_ret (results_none rfl _ _ _) rfl ?_
    exact HZ.out
  · rw [if_neg ht]
    have t1 : ((t : Int) == 0) = false := by simp; omega
    have hz : ReadsP w b (.tuple #[]) l t (.returned (.tuple #[])) w := ⟨rfl, h.at_, Turn.refl w b none⟩
    have HZ := Lib.hid hz
    clear h hz ht
    go_enter Tryd.func95, Tryd.ntmps95
    go_wp2
    first | go_end0 | refine bodyPost_ret (results_none rfl _ _ _) rfl ?_
    exact HZ.out
theorem pass_ok (b : Nat) (l : List UInt8) (t k : Nat) (w : World) (h : RdAt w b l t) (hk : k ≤ l.length) :
    Calls Tryd.prog 94 #[.pointer (some ⟨b, 0, none⟩), .int .i64 (k : Int), .int .i64 0] w (ReadsP w b (.tuple #[]) (l.drop k) t) := by
  obtain ⟨A, c, h⟩ := h
  obtain ⟨f0, f1⟩ := h.cells
  have fz := h.frozen
  have hm := h.2.2
  have hcut := h.2.1.cut hk hm.1
  have hz := h.set0 (l' := l.drop k) (A' := (if c = k then A else A.map (·.add k))) (c' := c - k) (by rw [List.length_drop]; exact hcut) (by rw [List.length_drop]; omega) (by omega)
  rw [List.length_drop] at hz
  obtain ⟨hm1, hm2⟩ := hm
  unfold maxLen at hm2
  generalize hn : l.length = n at *
  clear hn
  by_cases hck : c = k
  · obtain rfl : n = k := by omega
    obtain rfl := hck
    rw [if_pos rfl, Nat.sub_self] at hz
    have hq : ReadsP w b (.tuple #[]) (l.drop c) t (.returned (.tuple #[])) (w.setCell ⟨b, 0, none⟩ (.slice A 0 0)) := ⟨rfl, hz.at_, (Turn.refl w b none).set_ rfl _⟩
    have HZ := Lib.hid hq
    clear h hz hcut hq
    go_enter Tryd.func94, Tryd.ntmps94
    go_wp2
    first | go_end0 | refine bodyPost_ret (results_none rfl _ _ _) rfl ?_
    exact HZ.out
  · rw [if_neg hck] at hz
    have hq : ReadsP w b (.tuple #[]) (l.drop k) t (.returned (.tuple #[])) (w.setCell ⟨b, 0, none⟩ (.slice (A.map (·.add k)) (n - k) (c - k))) := ⟨rfl, hz.at_, (Turn.refl w b none).set_ rfl _⟩
    have HZ := Lib.hid hq
    have hlt : k < c := by omega
    clear h hz hcut hq
    go_enter Tryd.func94, Tryd.ntmps94
    go_wp2
    first | go_end0 | refine bodyPost_ret (results_none rfl _ _ _) rfl ?_
    exact HZ.out
theorem pass_err (b : Nat) (l : List UInt8) (t k u : Nat) (w : World) (h : RdAt w b l t) (hu : u ≠ 0) :
    Calls Tryd.prog 94 #[.pointer (some ⟨b, 0, none⟩), .int .i64 (k : Int), .int .i64 (u : Int)] w (ReadsP w b (.tuple #[]) l (if t = 0 then u else t)) := by
  have cs := stop_any b l t u w h
  generalize (if t = 0 then u else t) = v at *
  have t1 : ((u : Int) != 0) = true := by simp; omega
  clear hu
  go_enter Tryd.func94, Tryd.ntmps94
  go_wp2_with fail
  refine cs.mono ?_
  rintro e w1 ⟨rfl, hr⟩
  have hz : ReadsP w b (.tuple #[]) l v (.returned (.tuple #[])) w1 := ⟨rfl, hr⟩
  have HZ := Lib.hid hz
  clear hr hz
  go_wp2
  first | go_end0 | refine bodyPost_ret (results_none rfl _ _ _) rfl ?_
  exact HZ.out
theorem stop_first (b : Nat) (l : List UInt8) (u : Nat) (w : World) (h : RdAt w b l 0) :
    Calls Tryd.prog 95 #[.pointer (some ⟨b, 0, none⟩), .int .i64 (u : Int)] w (ReadsP w b (.tuple #[]) l u) := by
  have := stop_any b l 0 u w h
  rwa [if_pos rfl] at this
theorem stop_more (b : Nat) (l : List UInt8) (t u : Nat) (w : World) (h : RdAt w b l t) (ht : t ≠ 0) :
    Calls Tryd.prog 95 #[.pointer (some ⟨b, 0, none⟩), .int .i64 (u : Int)] w (ReadsP w b (.tuple #[]) l t) := by
  have := stop_any b l t u w h
  rwa [if_neg ht] at this
theorem pass_bad (b : Nat) (l : List UInt8) (k u : Nat) (w : World) (h : RdAt w b l 0) (hu : u ≠ 0) :
    Calls Tryd.prog 94 #[.pointer (some ⟨b, 0, none⟩), .int .i64 (k : Int), .int .i64 (u : Int)] w (ReadsP w b (.tuple #[]) l u) := by
  have := pass_err b l 0 k u w h hu
  rwa [if_pos rfl] at this
def mostF (m : Int) : Nat := m.toNat
theorem atMost_any (m : Int) (w : World) (h0 : -9223372036854775808 ≤ m) (h1 : m ≤ 9223372036854775807) :
    Calls Tryd.prog 98 #[.int .i64 m] w fun e w' => e = .returned (.int .u64 (mostF m : Nat)) ∧ w = w' := by
  unfold mostF
  by_cases hm : 0 ≤ m
  · obtain ⟨k, rfl⟩ := Int.eq_ofNat_of_zero_le hm
    have e1 : max ((k : Nat) : Int) 0 = (k : Int) := by omega
    have e2 : IntKind.u64.wrap (k : Int) = (k : Int) := by rw [IntKind.wrap_u64]; omega
    have e3 : ((k : Int).toNat : Int) = (k : Int) := by omega
    rw [e3]
    clear e3
    go_enter Tryd.func98, Tryd.ntmps98
    go_wp2
    go_ret
    exact ⟨rfl, rfl⟩
  · have e1 : max m 0 = 0 := by omega
    have e3 : m.toNat = 0 := by omega
    rw [e3]
    clear e3
    go_enter Tryd.func98, Tryd.ntmps98
    go_wp2
    go_ret
    exact ⟨rfl, rfl⟩
def ReadP (w : World) (l : List UInt8) (e : Ending) (w' : World) : Prop := ∃ b, e = .returned (.pointer (some ⟨b, 0, none⟩)) ∧ w.heap.size ≤ b ∧ RdAt w' b l 0 ∧ Below w.heap.size w w'
theorem read_any (A : Option Addr) (n c : Nat) (l : List UInt8) (B : Nat) (w : World) (hA : Bs w B A n l) (hB : B ≤ w.heap.size) (hn : n ≤ 140737488355328) :
    Calls Tryd.prog 49 #[.slice A n c] w (ReadP w l) := by
  have hlen := hA.len
  go_enter Tryd.func49, Tryd.ntmps49
  go_wp2_with fail
  refine (clone_any A n c l B w hA hB hn).mono ?_
  rintro e w1 ⟨A1, c1, rfl, hO, hb⟩
  have hcap := hO.cap
  have hroom : c1 ≤ maxLen := by
    rcases hO.2 with ⟨hv, _⟩ | ⟨g, cap, cur, hv, _, _, _, hm, _⟩
    · injection hv with _ _ e; subst e; decide
    · injection hv with _ _ e; subst e; exact hm
  have hbs := hO.bs.alloc (Nat.le_refl _) (.cells #[.slice A1 n c1, .int .i64 0] 118)
  have hs := hb.size
  have hz : ReadP w l (.returned (.pointer (some ⟨w1.heap.size, 0, none⟩))) (w1.alloc (.cells #[.slice A1 n c1, .int .i64 0] 118)) := by
    subst hlen
    exact ⟨_, rfl, hs, ⟨A1, c1, heap_alloc_new w1 _, hbs, hcap, hroom⟩, hb.alloc hs _⟩
  have HZ := Lib.hid hz
  clear hz hbs hO hb hlen
  go_wp2
  go_ret
  exact HZ.out
end Go.Proofs.YtjmkecaljkcoiaaDoor
