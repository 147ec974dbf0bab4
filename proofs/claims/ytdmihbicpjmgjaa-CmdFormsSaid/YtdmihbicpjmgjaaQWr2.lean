/-
  The document's Pick: a place below n, picked by any number.
-/
import Derived.Test.YtdmihbicpjmgjaaQOpenF
import Derived.Deep.Strs
import Derived.SizedLaws
import Derived.Test.YtdmihbicpjmgjaaQSortM
import Derived.Test.YtdmihbicpjmgjaaQWr1
import Derived.Deep.RegionHeld3
namespace Go.Proofs.Ytdmihbicpjmgjaa
open Go.RowKit
set_option linter.unusedVariables false
set_option linter.unusedSimpArgs false

/-- A place below n, picked by any number. -/
def pickF (a n : Int) : Int := if n < 1 then 0 else a % n
theorem pickF_bd {a n : Int} (h : 1 ≤ n) : 0 ≤ pickF a n ∧ pickF a n < n := by
  unfold pickF
  rw [if_neg (by omega)]
  exact ⟨Int.emod_nonneg _ (by omega), Int.emod_lt_of_pos _ (by omega)⟩
theorem tmod_emod (a n : Int) : a.tmod n % n = a % n := by
  have h := Int.mul_tdiv_add_tmod a n
  conv => rhs; rw [← h]
  rw [Int.add_comm, Int.add_mul_emod_self_left]
theorem pickF_hi {a n : Int} (h : 1 ≤ n) : 0 ≤ a.tmod n → pickF a n = a.tmod n := by
  intro h0
  unfold pickF
  rw [if_neg (by omega), ← tmod_emod]
  exact Int.emod_eq_of_lt h0 (Int.tmod_lt_of_pos a (by omega))
theorem pickF_lo {a n : Int} (h : 1 ≤ n) : a.tmod n < 0 → pickF a n = a.tmod n + n := by
  intro h0
  unfold pickF
  rw [if_neg (by omega), ← tmod_emod, ← Int.add_emod_right]
  have := Int.lt_tmod_of_pos a (show 0 < n by omega)
  exact Int.emod_eq_of_lt (by omega) (by omega)
end Go.Proofs.Ytdmihbicpjmgjaa
namespace Go.Proofs.Ytdmihbicpjmgjaa
open Go.ChangeShapes Go.WideShapes Go.RowKit
set_option linter.unusedVariables false
set_option linter.unusedSimpArgs false

/-- A thing. -/
structure Th where
  kind : Int
  n : Nat
  t : Bool
  r : Nat
  p : Pr
  A : Option Addr
  m : Nat
  c : Nat
  l : List UInt8
  B : Option Addr
  d : Nat
  e : Nat
  q : List Pr
  most : Int
def thC (x : Th) : List Value := [.int .i64 x.kind, .int .u64 (x.n : Int), .bool x.t, .int .u32 (x.r : Int), .int .u16 (x.p.i : Int), .int .u32 (x.p.k : Int), .slice x.A x.m x.c, .slice x.B x.d x.e, .int .i64 x.most]
theorem thOk : EncOk thC 9 := ⟨fun _ => rfl, fun p v hv => by simp [thC] at hv; rcases hv with rfl | rfl | rfl | rfl | rfl | rfl | rfl | rfl | rfl <;> rfl, by decide⟩
/-- What is known of a thing that came in: its bytes and processes lie below block B0. -/
structure ThIn (w : World) (B0 : Nat) (x : Th) : Prop where
  k0 : -9223372036854775808 ≤ x.kind
  k1 : x.kind ≤ 9223372036854775807
  hn : x.n < 18446744073709551616
  hr : x.r < 4294967296
  bs : Bs w B0 x.A x.m x.l
  mc : x.m ≤ x.c
  room : x.c ≤ maxLen
  es : Es prC w B0 x.B x.d x.q
  de : x.d ≤ x.e
  room2 : x.e ≤ maxLen
  o0 : -9223372036854775808 ≤ x.most
  o1 : x.most ≤ 9223372036854775807
theorem ThIn.below {w w' : World} {B0 : Nat} {x : Th} (h : ThIn w B0 x) (hb : Below B0 w w') : ThIn w' B0 x := ⟨h.k0, h.k1, h.hn, h.hr, h.bs.below hb, h.mc, h.room, h.es.below hb, h.de, h.room2, h.o0, h.o1⟩
/-- Things that came in. -/
def Things0 (w : World) (A : Option Addr) (n c : Nat) (l : List Th) : Prop := Es thC w w.heap.size A n l ∧ n ≤ c ∧ c ≤ maxLen ∧ ∀ a ∈ l, ThIn w w.heap.size a
theorem cells_bool : Try.prog.cellsOf 4 = 1 := by kernel_rfl
theorem cells_pids : Try.prog.cellsOf 28 = 1 := by kernel_rfl
section
variable {H : Type} {enc : TypeId × Value → H} {w : World} {base : Nat} {spare : Nat → Bool} {held : Bool}
theorem trod_struct7 {P : Program} {t : TypeId} {f0 f1 f2 f3 f4 f5 f6 : Field} {fuel : Nat} {cs : List Value} {x : DataW H × List MemPlace} (ht : P.underlying t = some (.struct #[f0, f1, f2, f3, f4, f5, f6])) (h : DataW.trod enc P w base spare held fuel t cs = some x) :
    ∃ y0 y1 y2 y3 y4 y5 y6 n, cs.length = P.cellsOf t ∧ DataW.trod enc P w base spare held n f0.type ((cs.drop f0.offset).take (P.cellsOf f0.type)) = some y0 ∧
      DataW.trod enc P w base spare held n f1.type ((cs.drop f1.offset).take (P.cellsOf f1.type)) = some y1 ∧ DataW.trod enc P w base spare held n f2.type ((cs.drop f2.offset).take (P.cellsOf f2.type)) = some y2 ∧
      DataW.trod enc P w base spare held n f3.type ((cs.drop f3.offset).take (P.cellsOf f3.type)) = some y3 ∧ DataW.trod enc P w base spare held n f4.type ((cs.drop f4.offset).take (P.cellsOf f4.type)) = some y4 ∧
      DataW.trod enc P w base spare held n f5.type ((cs.drop f5.offset).take (P.cellsOf f5.type)) = some y5 ∧ DataW.trod enc P w base spare held n f6.type ((cs.drop f6.offset).take (P.cellsOf f6.type)) = some y6 := by
  obtain ⟨xs, n, _, rfl, hl, hlen, hf⟩ := DataW.trod_struct ht h
  match xs, hlen with
  | [y0, y1, y2, y3, y4, y5, y6], _ => exact ⟨y0, y1, y2, y3, y4, y5, y6, n, hl, by simpa using hf 0 f0 rfl, by simpa using hf 1 f1 rfl, by simpa using hf 2 f2 rfl, by simpa using hf 3 f3 rfl, by simpa using hf 4 f4 rfl, by simpa using hf 5 f5 rfl, by simpa using hf 6 f6 rfl⟩
theorem bytes_u8 : Try.prog.bytesOf 5 = 1 := by kernel_rfl
end
theorem things_row {w : World} {cs : List Value} {A : Option Addr} {n c : Nat} (h : cs = [.slice none 0 0] ∨ ∃ (a : Addr) (len cap : Nat), cs = [.slice (some a) len cap] ∧ len ≤ cap ∧ cap ≤ maxLen ∧
      ∀ i, i < len → ∃ y : Th, ThIn w w.heap.size y ∧ ∀ j v, (thC y)[j]? = some v → w.cell? (a.add (i * 9 + j)) = some v) (he : (Value.slice A n c).cells.toList = cs) : ∃ l, Things0 w A n c l := by
  simp [Value.cells] at he
  subst he
  rcases h with h | ⟨a, len, cap, h, hl, hm, hc⟩
  · simp only [List.cons.injEq, and_true, Value.slice.injEq] at h
    obtain ⟨rfl, rfl, rfl⟩ := h
    exact ⟨[], Es.none_, Nat.le_refl _, by decide, fun a ha => by simp at ha⟩
  · simp only [List.cons.injEq, and_true, Value.slice.injEq] at h
    obtain ⟨rfl, rfl, rfl⟩ := h
    obtain ⟨l, h1, h2, h3⟩ := rows_of thOk n hc
    refine ⟨l, ⟨h1, fun hn => ⟨a, rfl, ?_, h3⟩⟩, hl, hm, h2⟩
    obtain ⟨y, _, hy⟩ := hc 0 hn
    have := World.block_lt_of_cell? w _ (hy 0 _ rfl)
    rwa [block_of_add] at this
/-- A thing's nine cells, as the walk spells them. -/
theorem th_at {w : World} {ad : Addr} {j : Nat} {q : Th} (hc : ∀ i v, (thC q)[i]? = some v → w.cell? (ad.add (j * 9 + i)) = some v) :
    w.cell? (ad.add (j * 9)) = some (.int .i64 q.kind) ∧ w.cell? ⟨(ad.add (j * 9)).block, (ad.add (j * 9)).off + 1, none⟩ = some (.int .u64 (q.n : Int)) ∧
    w.cell? ⟨(ad.add (j * 9)).block, (ad.add (j * 9)).off + 2, none⟩ = some (.bool q.t) ∧ w.cell? ⟨(ad.add (j * 9)).block, (ad.add (j * 9)).off + 3, none⟩ = some (.int .u32 (q.r : Int)) ∧
    w.cell? ⟨(ad.add (j * 9)).block, (ad.add (j * 9)).off + 4, none⟩ = some (.int .u16 (q.p.i : Int)) ∧ w.cell? ⟨(ad.add (j * 9)).block, (ad.add (j * 9)).off + 5, none⟩ = some (.int .u32 (q.p.k : Int)) ∧
    w.cell? ⟨(ad.add (j * 9)).block, (ad.add (j * 9)).off + 6, none⟩ = some (.slice q.A q.m q.c) ∧ w.cell? ⟨(ad.add (j * 9)).block, (ad.add (j * 9)).off + 7, none⟩ = some (.slice q.B q.d q.e) ∧
    w.cell? ⟨(ad.add (j * 9)).block, (ad.add (j * 9)).off + 8, none⟩ = some (.int .i64 q.most) := by
  have key : ∀ i v, (thC q)[i + 1]? = some v → w.cell? ⟨(ad.add (j * 9)).block, (ad.add (j * 9)).off + (i + 1), none⟩ = some v := by
    intro i v hv
    have h := hc (i + 1) v hv
    rw [← add_of_add] at h
    exact h
  exact ⟨hc 0 _ rfl, key 0 _ rfl, key 1 _ rfl, key 2 _ rfl, key 3 _ rfl, key 4 _ rfl, key 5 _ rfl, key 6 _ rfl, key 7 _ rfl⟩
/-- The forms of processes. -/
def pidsL (l : List Pr) : List UInt8 := l.flatMap fun p => pidL p.i p.k
theorem pidsL_snoc (l : List Pr) (p : Pr) : pidsL (l ++ [p]) = pidsL l ++ pidL p.i p.k := by simp [pidsL]
theorem pidsL_cons (l : List Pr) (p : Pr) : pidsL (p :: l) = pidL p.i p.k ++ pidsL l := by simp [pidsL]
theorem pidsL_take {l : List Pr} {j : Nat} (h : j < l.length) : pidsL (l.take (j + 1)) = pidsL (l.take j) ++ pidL l[j].i l[j].k := by
  rw [List.take_succ_eq_append_getElem h, pidsL_snoc]
theorem pidsL_len (l : List Pr) : (pidsL l).length ≤ 20 * l.length := by
  induction l with
  | nil => simp [pidsL]
  | cons p l ih => rw [pidsL_cons, List.length_append, List.length_cons]; have := pidL_len p.i p.k; omega
/-! ### great -/
/-- Are the first j things small? -/
def Small (l : List Th) (j : Nat) : Prop := ∀ a ∈ l.take j, a.m ≤ 300 ∧ a.d ≤ 60
theorem Small.step {l : List Th} {j : Nat} (h : Small l j) (hj : j < l.length) (ha : l[j].m ≤ 300 ∧ l[j].d ≤ 60) : Small l (j + 1) := by
  unfold Small at *
  rw [List.take_succ_eq_append_getElem hj]
  intro a h'
  rw [List.mem_append, List.mem_singleton] at h'
  exact h'.elim (h a) (fun e => e ▸ ha)
/-- What great answers: if not, all that is looked at is small. -/
def GreatP (w : World) (l : List Th) (e : Ending) (w' : World) : Prop := ∃ b : Bool, e = .returned (.bool b) ∧ (b = false → Small l 60) ∧ w = w'
end Go.Proofs.Ytdmihbicpjmgjaa
namespace Go.Proofs.Ytdmihbicpjmgjaa
open Go.RowKit
set_option linter.unusedVariables false
set_option linter.unusedSimpArgs false

set_option maxRecDepth 100000 in
theorem wbytes_any (base b : Nat) (mg : Option Nat) (L : List UInt8) (A : Option Addr) (n c : Nat) (l : List UInt8) (w : World) (h : WrAt w base b mg L) (hbase : base ≤ w.heap.size) (hn : L.length ≤ 9000000) (hA : Bs w base A n l) (hm : n ≤ 9000000) :
    Calls Try.prog 26 #[.pointer (some ⟨b, 0, none⟩), .slice A n c] w (WroteP w base b mg (L ++ (shortL n ++ l))) := by
  have wr : IntKind.u64.wrap (n : Int) = (n : Int) := by rw [IntKind.wrap_u64]; omega
  go_enter Try.func26, Try.ntmps26
  go_wp2_with fail
  refine (wnum_any base b mg L n w h hbase (by omega) (by omega)).mono ?_
  rintro e w2 ⟨rfl, mg2, h2, ht2, hm2⟩
  have hA2 := hA.below (h.turned ht2 hbase)
  have hs2 := ht2.size
  have hl2 : (L ++ shortL n).length ≤ 10000000 := by rw [List.length_append]; have := (shortL_len n).2; omega
  go_wp2_with fail
  refine (lay_any base b mg2 _ A n c l base w2 h2 hA2 (by omega) (by omega)).mono ?_
  rintro e w3 ⟨rfl, hw⟩
  have hz := WroteP.two ht2 hm2 ⟨rfl, hw⟩
  rw [List.append_assoc] at hz
  have HW := hide hz
  clear hz hw
  go_wp2
  first | go_end0 | refine bodyPost_ret (results_none rfl _ _ _) rfl ?_
  exact HW.out
set_option maxRecDepth 100000 in
theorem wbytes_none (A : Option Addr) (n c : Nat) (w : World) (hm : n ≤ maxLen) :
    Calls Try.prog 26 #[.pointer none, .slice A n c] w fun e w' => e = .returned (.tuple #[]) ∧ Below w.heap.size w w' := by
  unfold maxLen at hm
  have wr : IntKind.u64.wrap (n : Int) = (n : Int) := by rw [IntKind.wrap_u64]; omega
  go_enter Try.func26, Try.ntmps26
  go_wp2_with fail
  refine (wnum_none n w (by omega)).mono ?_
  rintro e w2 ⟨rfl, hb⟩
  go_wp2_with fail
  refine (lay_none A n c w2).mono ?_
  rintro e w3 ⟨rfl, rfl⟩
  go_wp2
  first | go_end0 | refine bodyPost_ret (results_none rfl _ _ _) rfl ?_
  exact ⟨rfl, hb⟩
theorem Turn.two {w w1 w2 : World} {b : Nat} {mg mg1 mg2 : Option Nat} (h1 : Turn w w1 b mg) (m1 : Mov w mg mg1) (h2 : Turn w1 w2 b mg1) (m2 : Mov w1 mg1 mg2) : Turn w w2 b mg ∧ Mov w mg mg2 := ⟨h1.trans h2 m1, m1.trans m2 h1.size⟩
set_option maxRecDepth 100000 in
theorem wpids_any (base b : Nat) (mg : Option Nat) (L : List UInt8) (A : Option Addr) (n c : Nat) (l : List Pr) (w : World) (h : WrAt w base b mg L) (hbase : base ≤ w.heap.size) (hn : L.length ≤ 9000000) (hA : Es prC w base A n l) (hm : n ≤ 1000) :
    Calls Try.prog 56 #[.pointer (some ⟨b, 0, none⟩), .slice A n c] w (WroteP w base b mg (L ++ (shortL n ++ pidsL l))) := by
  have wr : IntKind.u64.wrap (n : Int) = (n : Int) := by rw [IntKind.wrap_u64]; omega
  have hlen := hA.len
  have hpl := fun j => pidsL_len (l.take j)
  have hsl := (shortL_len n).2
  have HL := hide hlen
  have HP := hide hpl
  clear hlen hpl
  go_enter Try.func56, Try.ntmps56
  go_wp2_with fail
  refine (wnum_any base b mg L n w h hbase (by omega) (by omega)).mono ?_
  rintro e w2 ⟨rfl, mg2, h2, ht2, hm2⟩
  have H0 : WrAt w2 base b mg2 (L ++ (shortL n ++ pidsL (l.take 0))) := by simpa [pidsL] using h2
  go_wp2
  go_loopw [5, 13, 16] (fun x i y wr => ∃ j : Nat, j ≤ n ∧ i = .int .i64 j ∧ ∃ mg', WrAt wr base b mg' (L ++ (shortL n ++ pidsL (l.take j))) ∧ Turn w wr b mg ∧ Mov w mg mg') (fun _ i _ _ => n - (intOf i).toNat)
  case atStart => exact ⟨0, Nat.zero_le _, rfl, mg2, H0, ht2, hm2⟩
  case round =>
    obtain ⟨j, hj, rfl, mg', h', ht', hm'⟩ := hrel
    clear h2 ht2 hm2 H0
    by_cases hlt : j < n
    · obtain ⟨ad, hl, rfl, hbl, hc⟩ := (hA.below (h.turned ht' hbase)).at_ prOk hlt
      obtain ⟨q, hq⟩ : ∃ q, q = l[j] := ⟨_, rfl⟩
      rw [← hq] at hc
      obtain ⟨c0, c1⟩ := pr_at hc
      have hstep := pidsL_take hl
      rw [← hq] at hstep
      have HS := hide hstep
      have hs' := ht'.size
      clear hc hq hstep
      have hb1 : Below wr.heap.size wr (wr.alloc (.cells #[.int .u16 (q.i : Int), .int .u32 (q.k : Int)] 25)) := (Below.refl _ _).alloc (Nat.le_refl _) _
      have hl2 : (L ++ (shortL n ++ pidsL (l.take j))).length ≤ 10000000 := by
        have h1 := HP.out j
        have h2 : (l.take j).length ≤ j := List.length_take_le _ _
        rw [List.length_append, List.length_append]
        omega
      go_wp2_with fail
      refine (wpid_any base b mg' _ q.i q.k _ (h'.later hb1) (by simp; omega) hl2 q.hi q.hk).mono ?_
      rintro e w3 ⟨rfl, mg3, h3, ht3, hm3⟩
      rw [List.append_assoc, List.append_assoc, ← HS.out] at h3
      have hm3' : Mov wr mg' mg3 := by
        rcases hm3 with rfl | ⟨g, rfl, hg⟩
        · exact .inl rfl
        · exact .inr ⟨g, rfl, Nat.le_trans hb1.size hg⟩
      obtain ⟨ht4, hm4⟩ := Turn.two ht' hm' (Turn.ahead hb1 ht3) hm3'
      clear hb1 hl2 c0 c1 h' ht' hm' ht3 hm3 hm3'
      go_wp2
      go_roundw
      case rel => exact ⟨j + 1, by omega, by go_num, mg3, h3, ht4, hm4⟩
      case measure => simp [intOf]; omega
    · have e : l.take j = l := List.take_of_length_le (by rw [HL.out]; omega)
      rw [e] at h'
      have hw : WroteP w base b mg (L ++ (shortL n ++ pidsL l)) (.returned (.tuple #[])) wr := ⟨rfl, mg', h', ht', hm'⟩
      have HW := Lib.hid hw
      clear e h' ht' hm' hw
      go_wp2
      first | go_end0 | refine bodyPost_ret (results_none rfl _ _ _) rfl ?_
      exact HW.out
set_option maxRecDepth 100000 in
theorem wpids_none (A : Option Addr) (n c : Nat) (l : List Pr) (w : World) (hA : Es prC w w.heap.size A n l) (hm : n ≤ maxLen) :
    Calls Try.prog 56 #[.pointer none, .slice A n c] w fun e w' => e = .returned (.tuple #[]) ∧ Below w.heap.size w w' := by
  unfold maxLen at hm
  have wr : IntKind.u64.wrap (n : Int) = (n : Int) := by rw [IntKind.wrap_u64]; omega
  go_enter Try.func56, Try.ntmps56
  go_wp2_with fail
  refine (wnum_none n w (by omega)).mono ?_
  rintro e w2 ⟨rfl, hb2⟩
  go_wp2
  go_loopw [5, 13, 16] (fun x i y wr => ∃ j : Nat, j ≤ n ∧ i = .int .i64 j ∧ Below w.heap.size w wr) (fun _ i _ _ => n - (intOf i).toNat)
  case atStart => exact ⟨0, Nat.zero_le _, rfl, hb2⟩
  case round =>
    obtain ⟨j, hj, rfl, hb⟩ := hrel
    clear hb2
    by_cases hlt : j < n
    · obtain ⟨ad, hl, rfl, hbl, hc⟩ := (hA.below hb).at_ prOk hlt
      obtain ⟨q, hq⟩ : ∃ q, q = l[j] := ⟨_, rfl⟩
      rw [← hq] at hc
      obtain ⟨c0, c1⟩ := pr_at hc
      clear hc hq
      have hb1 := hb.alloc hb.size (.cells #[.int .u16 (q.i : Int), .int .u32 (q.k : Int)] 25)
      go_wp2_with fail
      refine (wpid_none q.i q.k _ q.hi q.hk).mono ?_
      rintro e w3 ⟨rfl, hb3⟩
      have hb4 := hb1.trans (hb3.mono hb1.size)
      clear hb1 hb3 c0 c1
      go_wp2
      go_roundw
      case rel => exact ⟨j + 1, by omega, by go_num, hb4⟩
      case measure => simp [intOf]; omega
    · go_wp2
      first | go_end0 | refine bodyPost_ret (results_none rfl _ _ _) rfl ?_
      exact ⟨rfl, hb⟩
theorem wdone_any (base b : Nat) (mg : Option Nat) (L : List UInt8) (w : World) (h : WrAt w base b mg L) (hn : L.length ≤ 100000000) :
    Calls Try.prog 15 #[.pointer (some ⟨b, 0, none⟩)] w (MakesB w L) := by
  obtain ⟨hbb, A0, c0, hblk, hmg, hO⟩ := h
  have f0 : w.cell? ⟨b, 0, none⟩ = some (.slice A0 L.length c0) := cell_of_row w b 0 _ _ (0, 0) hblk
  go_enter Try.func15, Try.ntmps15
  go_wp2_with fail
  refine (clone_any A0 L.length c0 L _ w hO.bs (Nat.le_refl _) (by omega)).mono ?_
  rintro e w1 ⟨A1, c1, rfl, hO1, hb1⟩
  have HW := hide (⟨A1, c1, rfl, hO1, hb1⟩ : MakesB w L (.returned (.slice A1 L.length c1)) w1)
  clear hO1 hb1
  go_wp2
  go_ret
  exact HW.out
theorem wdone_none (w : World) :
    Calls Try.prog 15 #[.pointer none] w fun e w' => e = .returned (.slice none 0 0) ∧ w = w' := by
  go_enter Try.func15, Try.ntmps15
  go_wp2
  go_ret
  exact ⟨rfl, rfl⟩
/-! ### The document's forms -/
theorem rnum7_any (x : Nat) (w : World) (hx : x < 18446744073709551616) :
    Calls Try.prog 31 #[.int .u64 (x : Int)] w (MakesB w (shortL x)) := by
  go_enter Try.func31, Try.ntmps31
  go_wp2_with fail
  refine (rshort_any x w hx).mono ?_
  rintro e w1 ⟨A1, c1, rfl, hO1, hb1⟩
  have HW := hide (⟨A1, c1, rfl, hO1, hb1⟩ : MakesB w (shortL x) (.returned (.slice A1 (shortL x).length c1)) w1)
  clear hO1 hb1
  go_wp2
  go_ret
  exact HW.out
set_option maxRecDepth 100000 in
theorem rbytes7_any (A : Option Addr) (n c : Nat) (l : List UInt8) (B : Nat) (w : World) (hA : Bs w B A n l) (hB : B ≤ w.heap.size) (hm : n ≤ 140737488355000) :
    Calls Try.prog 33 #[.slice A n c] w (MakesB w (shortL n ++ l)) := by
  have r1 := fun W => rnum7_any n W (by omega)
  have wr : IntKind.u64.wrap (n : Int) = (n : Int) := by rw [IntKind.wrap_u64]; omega
  have hi10 := (shortL_len n).2
  have hlen := hA.len
  generalize shortL n = l1 at *
  have HL := hide hlen
  clear hlen
  go_enter Try.func33, Try.ntmps33
  go_wp2_with fail
  refine (r1 w).mono ?_
  rintro e w1 ⟨A1, c1, rfl, hO1, hb1⟩
  have hA1 := hA.below (hb1.mono hB)
  go_wp2_with (at_builtin; refine wp_bytes_own _ rfl (.tmp 6) (.tmp 7) rfl w.heap.size l1.length _ l1 rfl hO1 B A n c l rfl hA1 (by omega) w.heap.size w hb1 (Nat.le_refl _) hb1.size ?_)
  intro A2 c2 w2 hO2 hb2 hs2
  have e1 : l1.length + n = (l1 ++ l).length := by rw [List.length_append, HL.out]
  have hm : MakesB w (l1 ++ l) (.returned (.slice A2 (l1.length + n) c2)) w2 := ⟨A2, c2, by rw [e1], e1 ▸ hO2, hb2⟩
  have HM := Lib.hid hm
  clear hm e1 hO2 hb2 hO1 hb1
  go_wp2
  go_ret
  exact HM.out
set_option maxRecDepth 100000 in
theorem rpids7_any (A : Option Addr) (n c : Nat) (l : List Pr) (B : Nat) (w : World) (hA : Es prC w B A n l) (hB : B ≤ w.heap.size) (hm : n ≤ 1000) :
    Calls Try.prog 59 #[.slice A n c] w (MakesB w (shortL n ++ pidsL l)) := by
  have r1 := fun W => rnum7_any n W (by omega)
  have wr : IntKind.u64.wrap (n : Int) = (n : Int) := by rw [IntKind.wrap_u64]; omega
  have hi10 := (shortL_len n).2
  have hlen := hA.len
  have hpl := fun j => pidsL_len (l.take j)
  generalize shortL n = l1 at *
  have HL := hide hlen
  have HP := hide hpl
  clear hlen hpl
  go_enter Try.func59, Try.ntmps59
  go_wp2_with fail
  refine (r1 w).mono ?_
  rintro e w1 ⟨A1, c1, rfl, hO1, hb1⟩
  have H0 : OwnB w1 w.heap.size (.slice A1 l1.length c1) l1.length (l1 ++ pidsL (l.take 0)) := by simpa [pidsL] using hO1
  clear r1
  go_wp2
  go_loopw [3, 4] (fun v i wr => ∃ j : Nat, j ≤ n ∧ i = .int .i64 j ∧ ∃ A' m' c', v = .slice A' m' c' ∧ OwnB wr w.heap.size (.slice A' m' c') m' (l1 ++ pidsL (l.take j)) ∧ Below w.heap.size w wr) (fun _ i _ => n - (intOf i).toNat)
  case atStart => exact ⟨0, Nat.zero_le _, rfl, A1, _, c1, rfl, H0, hb1⟩
  case round =>
    obtain ⟨j, hj, rfl, A', m', c', rfl, hO, hb⟩ := hrel
    clear H0 hO1 hb1
    have hs := hb.size
    by_cases hlt : j < n
    · obtain ⟨ad, hl, rfl, hbl, hc⟩ := (hA.below (hb.mono hB)).at_ prOk hlt
      obtain ⟨q, hq⟩ : ∃ q, q = l[j] := ⟨_, rfl⟩
      rw [← hq] at hc
      obtain ⟨c0, c1⟩ := pr_at hc
      have hstep := pidsL_take hl
      rw [← hq] at hstep
      have HS := hide hstep
      clear hc hq hstep
      have hm' : m' ≤ 30000 := by
        have h1 := HP.out j
        have h2 : (l.take j).length ≤ j := List.length_take_le _ _
        rw [← hO.len, List.length_append]
        omega
      have hp20 := pidL_len q.i q.k
      go_wp2_with fail
      refine (rpid_any q.i q.k wr q.hi q.hk).mono ?_
      rintro e w3 ⟨A3, c3, rfl, hO3, hb3⟩
      have hO' := hO.later hb3
      have hb' := hb.trans (hb3.mono hs)
      have hbs := hO3.bs
      have hs3 := hb'.size
      clear hO hb hb3 hO3
      generalize pidL q.i q.k = l3 at *
      go_wp2_with (at_builtin; refine wp_bytes_own _ rfl (.tmp 15) (.tmp 20) rfl w.heap.size m' _ _ rfl hO' _ A3 l3.length c3 l3 rfl hbs (by omega) w.heap.size w hb' (Nat.le_refl _) hs3 ?_)
      intro A4 c4 w4 hO4 hb4 hs4
      try rw [List.append_assoc] at hO4
      rw [← HS.out] at hO4
      clear hO' hb' hbs hs3 HS
      go_wp2
      go_roundw
      case rel => exact ⟨j + 1, by omega, by go_num, _, _, _, rfl, hO4, hb4⟩
      case measure => simp [intOf]; omega
    · have e : l.take j = l := List.take_of_length_le (by rw [HL.out]; omega)
      rw [e] at hO
      have hml := hO.len
      have HM := Lib.hid (⟨A', c', by rw [hml], hml ▸ hO, hb⟩ : MakesB w (l1 ++ pidsL l) (.returned (.slice A' m' c')) wr)
      clear e hO hml
      go_wp2
      go_ret
      exact HM.out
end Go.Proofs.Ytdmihbicpjmgjaa
