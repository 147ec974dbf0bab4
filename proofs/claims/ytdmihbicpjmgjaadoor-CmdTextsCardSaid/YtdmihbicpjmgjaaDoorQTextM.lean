/-
  Layer 9: commands in memory, and as they come in.
-/
import Derived.Test.YtdmihbicpjmgjaaDoorQCmdM
import Derived.Test.YtdmihbicpjmgjaaDoorQOpenV
import Derived.Test.YtdmihbicpjmgjaaDoorQOpenF
import Derived.Test.YtdmihbicpjmgjaaDoorQView2
import Derived.Lib.ItoaNum
import Derived.Lib.ParseIntB
import Derived.Lib.IndexLaws
import Derived.Lib.Strings
import Derived.Lib.IndexBytes
namespace Go.Proofs.YtdmihbicpjmgjaaDoor
open Go.RowKit Go.ChangeShapes Go.WideShapes Go.ChangeAt
set_option linter.unusedVariables false
set_option linter.unusedSimpArgs false

/-- A command with its slices. -/
structure Cx where
  kind : Int
  p : Pr
  num : Nat
  vn : Nat
  A : Option Addr
  n : Nat
  c : Nat
  l : List UInt8
  x : Vw
/-- .. in plain words. -/
def Cx.m (y : Cx) : Cm := ⟨y.kind, y.p, y.num, y.vn, y.l, y.x.v⟩
structure CxIn (w : World) (B0 : Nat) (y : Cx) : Prop where
  k0 : -9223372036854775808 ≤ y.kind
  k1 : y.kind ≤ 9223372036854775807
  hn : y.num < 18446744073709551616
  hv : y.vn < 18446744073709551616
  bs : Bs w B0 y.A y.n y.l
  nc : y.n ≤ y.c
  room : y.c ≤ maxLen
  vw : VwIn w B0 y.x
theorem CxIn.below {w w' : World} {B0 : Nat} {y : Cx} (h : CxIn w B0 y) (hb : Below B0 w w') : CxIn w' B0 y := ⟨h.k0, h.k1, h.hn, h.hv, h.bs.below hb, h.nc, h.room, h.vw.below hb⟩
theorem CxIn.more {w : World} {B0 B1 : Nat} {y : Cx} (h : CxIn w B0 y) (hb : B0 ≤ B1) : CxIn w B1 y := ⟨h.k0, h.k1, h.hn, h.hv, h.bs.more hb, h.nc, h.room, h.vw.more hb⟩
theorem CxIn.alloc {w : World} {B0 : Nat} {y : Cx} (h : CxIn w B0 y) (hB : B0 ≤ w.heap.size) (o : Obj) : CxIn (w.alloc o) B0 y := h.below ((Below.refl _ _).alloc hB o)
/-- The block b is just this command. -/
def CAt (w : World) (b : Nat) (y : Cx) : Prop := w.heap[b]? = some (.cells #[.int .i64 y.kind, .int .u16 (y.p.i : Int), .int .u32 (y.p.k : Int), .int .u64 (y.num : Int), .int .u64 (y.vn : Int), .slice y.A y.n y.c, .int .u64 (y.x.id : Int), .slice y.x.A y.x.m y.x.c, .slice y.x.B y.x.d y.x.e, .slice y.x.C y.x.f y.x.g] 33)
theorem CAt.cells {w : World} {b : Nat} {y : Cx} (h : CAt w b y) : w.cell? ⟨b, 0, none⟩ = some (.int .i64 y.kind) ∧ w.cell? ⟨b, 1, none⟩ = some (.int .u16 (y.p.i : Int)) ∧ w.cell? ⟨b, 2, none⟩ = some (.int .u32 (y.p.k : Int)) ∧
    w.cell? ⟨b, 3, none⟩ = some (.int .u64 (y.num : Int)) ∧ w.cell? ⟨b, 4, none⟩ = some (.int .u64 (y.vn : Int)) ∧ w.cell? ⟨b, 5, none⟩ = some (.slice y.A y.n y.c) ∧
    w.cell? ⟨b, 6, none⟩ = some (.int .u64 (y.x.id : Int)) ∧ w.cell? ⟨b, 7, none⟩ = some (.slice y.x.A y.x.m y.x.c) ∧ w.cell? ⟨b, 8, none⟩ = some (.slice y.x.B y.x.d y.x.e) ∧ w.cell? ⟨b, 9, none⟩ = some (.slice y.x.C y.x.f y.x.g) := by
  have hf : ∀ z, w.cell? ⟨b, z, none⟩ = (#[.int .i64 y.kind, .int .u16 (y.p.i : Int), .int .u32 (y.p.k : Int), .int .u64 (y.num : Int), .int .u64 (y.vn : Int), .slice y.A y.n y.c, .int .u64 (y.x.id : Int), .slice y.x.A y.x.m y.x.c, .slice y.x.B y.x.d y.x.e, .slice y.x.C y.x.f y.x.g] : Array Value)[z]? := by
    intro z
    unfold CAt at h
    simp [World.cell?, h]
  exact ⟨hf 0, hf 1, hf 2, hf 3, hf 4, hf 5, hf 6, hf 7, hf 8, hf 9⟩
theorem CAt.lt {w : World} {b : Nat} {y : Cx} (h : CAt w b y) : b < w.heap.size := lt_of_heap h
theorem CAt.mk_ (w : World) (y : Cx) : CAt (w.alloc (.cells #[.int .i64 y.kind, .int .u16 (y.p.i : Int), .int .u32 (y.p.k : Int), .int .u64 (y.num : Int), .int .u64 (y.vn : Int), .slice y.A y.n y.c, .int .u64 (y.x.id : Int), .slice y.x.A y.x.m y.x.c, .slice y.x.B y.x.d y.x.e, .slice y.x.C y.x.f y.x.g] 33)) w.heap.size y := heap_alloc_new w _
theorem CAt.alloc {w : World} {b : Nat} {y : Cx} (h : CAt w b y) (o : Obj) : CAt (w.alloc o) b y := (Below.heap_alloc w o b h.lt).trans h
theorem CAt.below {w w' : World} {b B : Nat} {y : Cx} (h : CAt w b y) (hb : Below B w w') (hg : b < B) : CAt w' b y := (hb.block b hg).trans h
theorem CAt.later {w w' : World} {b : Nat} {y : Cx} (h : CAt w b y) (hb : Below w.heap.size w w') : CAt w' b y := h.below hb h.lt
theorem CAt.fz {w : World} {b : Nat} {y : Cx} (h : CAt w b y) (j : Nat) : w.frozen? ⟨b, j, none⟩ = false := frozen_of_row w b j _ _ h
theorem CAt.turn {w w' : World} {g b : Nat} {mg : Option Nat} {y : Cx} (h : CAt w g y) (ht : Turn w w' b mg) (h1 : g ≠ b) (h2 : some g ≠ mg) : CAt w' g y := (ht.block g h.lt h1 h2).trans h
theorem CAt.far {w : World} {b : Nat} {y : Cx} (h : CAt w b y) {a : Addr} (u : Value) (ha : b ≠ a.block) : CAt (w.setCell a u) b y := (heap_setCell_other w a b u ha).trans h
/-- At most so much is looked at. -/
structure CSmall (y : Cx) : Prop where
  n : y.n ≤ 400
  v : VSmall y.x

theorem cells_cmd : Tryd.prog.cellsOf 33 = 10 := by kernel_rfl
section
variable {H : Type} {enc : TypeId × Value → H} {w : World} {base : Nat}
theorem trod_struct6 {spare : Nat → Bool} {held : Bool} {P : Program} {t : TypeId} {f0 f1 f2 f3 f4 f5 : Field} {fuel : Nat} {cs : List Value} {x : DataW H × List MemPlace} (ht : P.underlying t = some (.struct #[f0, f1, f2, f3, f4, f5])) (h : DataW.trod enc P w base spare held fuel t cs = some x) :
    ∃ y0 y1 y2 y3 y4 y5 n, cs.length = P.cellsOf t ∧ DataW.trod enc P w base spare held n f0.type ((cs.drop f0.offset).take (P.cellsOf f0.type)) = some y0 ∧
      DataW.trod enc P w base spare held n f1.type ((cs.drop f1.offset).take (P.cellsOf f1.type)) = some y1 ∧ DataW.trod enc P w base spare held n f2.type ((cs.drop f2.offset).take (P.cellsOf f2.type)) = some y2 ∧
      DataW.trod enc P w base spare held n f3.type ((cs.drop f3.offset).take (P.cellsOf f3.type)) = some y3 ∧ DataW.trod enc P w base spare held n f4.type ((cs.drop f4.offset).take (P.cellsOf f4.type)) = some y4 ∧
      DataW.trod enc P w base spare held n f5.type ((cs.drop f5.offset).take (P.cellsOf f5.type)) = some y5 := by
  obtain ⟨xs, n, _, rfl, hl, hlen, hf⟩ := DataW.trod_struct ht h
  match xs, hlen with
  | [y0, y1, y2, y3, y4, y5], _ => exact ⟨y0, y1, y2, y3, y4, y5, n, hl, by simpa using hf 0 f0 rfl, by simpa using hf 1 f1 rfl, by simpa using hf 2 f2 rfl, by simpa using hf 3 f3 rfl, by simpa using hf 4 f4 rfl, by simpa using hf 5 f5 rfl⟩
set_option maxRecDepth 100000 in
theorem open_cmd {r : Reach} {b0 : Nat} {v : Value} {d : DataW H} {p : List MemPlace} (hv : Value.okWide Tryd.prog w r b0 33 v) (h : DataW.Trod enc Tryd.prog w base (fun _ => true) true 33 v d p) :
    ∃ y : Cx, v = .agg #[.int .i64 y.kind, .int .u16 (y.p.i : Int), .int .u32 (y.p.k : Int), .int .u64 (y.num : Int), .int .u64 (y.vn : Int), .slice y.A y.n y.c, .int .u64 (y.x.id : Int), .slice y.x.A y.x.m y.x.c, .slice y.x.B y.x.d y.x.e, .slice y.x.C y.x.f y.x.g] ∧ CxIn w w.heap.size y := by
  obtain ⟨cs, rfl, _⟩ := okWide_struct Tryd.underlying33 hv
  obtain ⟨fuel, hf⟩ := h
  obtain ⟨y0, y1, y2, y3, y4, y5, n, hl, h0, h1, h2, h3, h4, h5⟩ := trod_struct6 Tryd.underlying33 hf
  rw [cells_cmd] at hl
  generalize hcs : (Value.agg cs).cells.toList = L at hl h0 h1 h2 h3 h4 h5
  match L, hl with
  | [a0, a1, a2, a3, a4, a5, a6, a7, a8, a9], _ =>
    simp only [cells_int, cells_pid, cells_u64, cells_bytes, cells_view, List.drop_zero, List.drop_succ_cons, List.take_succ_cons, List.take_zero] at h0 h1 h2 h3 h4 h5
    obtain ⟨k, e0, _, hw⟩ := DataW.trod_int Tryd.underlying3 h0
    have hk := wf_i64 hw
    obtain ⟨i, c, e1, hi, hc⟩ := pid_cells h1
    obtain ⟨s, e2, hs⟩ := u64_cell h2
    obtain ⟨t, e3, ht⟩ := u64_cell h3
    obtain ⟨A, m, q, l, e4, hB, hnq, hq⟩ := bytes_cell h4
    obtain ⟨z, e5, hz⟩ := view_cells h5
    simp only [vwC, List.cons.injEq, and_true] at e0 e1 e2 e3 e5
    obtain ⟨rfl, rfl⟩ := e1
    obtain ⟨rfl, rfl, rfl, rfl⟩ := e5
    subst e0 e2 e3 e4
    refine ⟨⟨k, ⟨i, c, hi, hc⟩, s, t, A, m, q, l, z⟩, ?_, ⟨hk.1, hk.2, hs, ht, hB, hnq, hq, hz⟩⟩
    obtain ⟨l'⟩ := cs
    simp [Value.cells] at hcs
    rw [hcs]
end
end Go.Proofs.YtdmihbicpjmgjaaDoor
namespace Go.Proofs.YtdmihbicpjmgjaaDoor
open Go.Lib
set_option linter.unusedVariables false

def isDig (c : UInt8) : Prop := 48 ≤ c.toNat ∧ c.toNat ≤ 57
/-- The number that digits spell, behind acc. -/
def valF (acc : Nat) (l : List UInt8) : Nat := l.foldl (fun a c => a * 10 + (c.toNat - 48)) acc
def allDig (l : List UInt8) : Prop := ∀ c ∈ l, isDig c
theorem valF_snoc (acc : Nat) (l : List UInt8) (c : UInt8) : valF acc (l ++ [c]) = valF acc l * 10 + (c.toNat - 48) := by simp [valF]
theorem dig_toNat (d : Nat) (h : d < 10) : (UInt8.ofNat (48 + d)).toNat = 48 + d := by simp; omega
theorem dec_big (u : Nat) (h : ¬ u < 10) : decDigits u = decDigits (u / 10) ++ [UInt8.ofNat (48 + u % 10)] := by rw [decDigits, dif_neg h]
theorem dec_all (n : Nat) : allDig (decDigits n) ∧ valF 0 (decDigits n) = n := by
  induction n using Nat.strongRecOn with
  | ind n ih =>
    by_cases h : n < 10
    · rw [decDigits_one h]
      have := dig_toNat n h
      refine ⟨fun c hc => ?_, ?_⟩
      · rw [List.mem_singleton] at hc
        subst hc
        exact ⟨by omega, by omega⟩
      · simp only [valF, List.foldl_cons, List.foldl_nil]
        omega
    · have h2 := ih (n / 10) (by omega)
      have := dig_toNat (n % 10) (by omega)
      rw [dec_big n h]
      refine ⟨fun c hc => ?_, ?_⟩
      · rcases List.mem_append.1 hc with hc | hc
        · exact h2.1 c hc
        · rw [List.mem_singleton] at hc
          subst hc
          exact ⟨by omega, by omega⟩
      · rw [valF_snoc, h2.2]
        omega
theorem dec_inj {m n : Nat} (h : decDigits m = decDigits n) : m = n := by rw [← (dec_all m).2, h, (dec_all n).2]
theorem dec_ne (n : Nat) : decDigits n ≠ [] := by
  by_cases h : n < 10
  · rw [decDigits_one h]; simp
  · rw [dec_big n h]; simp
theorem dec_len (n k : Nat) (hn : n < 10 ^ (k + 1)) : (decDigits n).length ≤ k + 1 := by
  induction k generalizing n with
  | zero => rw [decDigits_one (by simpa using hn)]; simp
  | succ k ih =>
    by_cases h : n < 10
    · rw [decDigits_one h]; simp
    · rw [dec_big n h, List.length_append, List.length_singleton]
      have := ih (n / 10) (by rw [Nat.pow_succ] at hn; omega)
      omega
theorem valF_ge (l : List UInt8) (acc : Nat) : acc ≤ valF acc l := by
  induction l generalizing acc with
  | nil => exact Nat.le_refl _
  | cons c r ih => have := ih (acc * 10 + (c.toNat - 48)); show acc ≤ valF (acc * 10 + (c.toNat - 48)) r; omega
theorem parse_ok (M : Nat) (hM : M < 4294967296) (l : List UInt8) (acc : Nat) (hl : allDig l) (hv : valF acc l ≤ M) : parseUintM M acc l = .ok (valF acc l) := by
  induction l generalizing acc with
  | nil => rfl
  | cons c r ih =>
    have h1 : 48 ≤ c.toNat ∧ c.toNat ≤ 57 := hl c (List.mem_cons_self ..)
    have h2 := valF_ge r (acc * 10 + (c.toNat - 48))
    have h3 : valF acc (c :: r) = valF (acc * 10 + (c.toNat - 48)) r := rfl
    rw [parseUintM, if_pos h1, if_neg (by omega), if_neg (by omega), h3]
    exact ih _ (fun x hx => hl x (List.mem_cons_of_mem _ hx)) (by omega)
theorem parseB_dec (B n : Nat) (hB : 2 ^ B ≤ 4294967296) (hn : n < 2 ^ B) : parseUintB B (decDigits n) = .ok n := by
  obtain ⟨h1, h2⟩ := dec_all n
  rw [parseUintB, if_neg (dec_ne n), parse_ok _ (by omega) _ _ h1 (by omega), h2]
theorem parseM_le (M : Nat) (l : List UInt8) (acc u : Nat) (h : parseUintM M acc l = .ok u) (ha : acc ≤ M) : u ≤ M := by
  induction l generalizing acc with
  | nil => rw [parseUintM] at h; injection h with h; omega
  | cons c r ih =>
    rw [parseUintM] at h
    split at h
    · split at h
      · cases h
      · split at h
        · cases h
        · exact ih _ h (by omega)
    · cases h
theorem parseB_lt (B : Nat) (l : List UInt8) (u : Nat) (h : parseUintB B l = .ok u) : u < 2 ^ B := by
  unfold parseUintB at h
  split at h
  · cases h
  · have := parseM_le _ _ _ _ h (Nat.zero_le _)
    have := Nat.two_pow_pos B
    omega

/-- A process's text. -/
def pidT (i k : Nat) : List UInt8 := decDigits i ++ [46] ++ decDigits k
theorem dec_no46 (n : Nat) : ∀ c ∈ decDigits n, c ≠ 46 := fun c hc e => by
  have := (dec_all n).1 c hc
  subst e
  exact absurd this.1 (by decide)
theorem index_dec (n : Nat) (r : List UInt8) : indexByte (decDigits n ++ 46 :: r) 46 = ((decDigits n).length : Int) := by
  have hg : ∀ (l : List UInt8), (∀ c ∈ l, c ≠ 46) → indexByte (l ++ 46 :: r) 46 = (l.length : Int) := by
    intro l
    induction l with
    | nil => intro _; simp [indexByte]
    | cons b l ih =>
      intro h
      have h1 := ih fun c hc => h c (List.mem_cons_of_mem _ hc)
      have h2 : (b == 46) = false := beq_eq_false_iff_ne.2 (h b (List.mem_cons_self ..))
      rw [List.cons_append, indexByte, h2, h1, List.length_cons]
      have h3 : ((l.length : Int) == -1) = false := by rw [beq_eq_false_iff_ne]; omega
      rw [h3]
      simp
  exact hg _ (dec_no46 n)
theorem pidT_index (i k : Nat) : indexByte (pidT i k) 46 = ((decDigits i).length : Int) := by
  rw [pidT, List.append_assoc]
  exact index_dec i _
theorem pidT_take (i k : Nat) : (pidT i k).take (decDigits i).length = decDigits i := by
  rw [pidT, List.append_assoc, List.take_append_of_le_length (Nat.le_refl _), List.take_length]
theorem pidT_drop (i k : Nat) : (pidT i k).drop ((decDigits i).length + 1) = decDigits k := by
  rw [pidT, List.drop_append_of_le_length (by simp), List.drop_of_length_le (by simp)]
  rfl
theorem pidT_inj {i k j m : Nat} (h : pidT i k = pidT j m) : i = j ∧ k = m := by
  have e1 := pidT_index i k
  have e2 := pidT_index j m
  rw [h, e2] at e1
  have hl : (decDigits j).length = (decDigits i).length := by omega
  have e3 := pidT_take i k
  have e4 := pidT_drop i k
  rw [h, ← hl, pidT_take] at e3
  rw [h, ← hl, pidT_drop] at e4
  exact ⟨(dec_inj e3).symm, (dec_inj e4).symm⟩
theorem pidT_len (i k : Nat) (hi : i < 65536) (hk : k < 4294967296) : (pidT i k).length ≤ 16 := by
  have h1 := dec_len i 4 (by omega)
  have h2 := dec_len k 9 (by omega)
  rw [pidT, List.length_append, List.length_append, List.length_singleton]
  omega
/-- What Parse answers: the process whose text it is, or none. -/
def TextG (l : List UInt8) (q : Nat × Nat × Nat) : Prop :=
  (∃ i k, i < 65536 ∧ k < 4294967296 ∧ l = pidT i k ∧ q = (i, k, 0)) ∨ ((∀ i k, i < 65536 → k < 4294967296 → l ≠ pidT i k) ∧ q = (0, 0, 5))
theorem TextG.some_ (l : List UInt8) : ∃ q, TextG l q := by
  by_cases h : ∃ i k, i < 65536 ∧ k < 4294967296 ∧ l = pidT i k
  · obtain ⟨i, k, hi, hk, e⟩ := h
    exact ⟨_, .inl ⟨i, k, hi, hk, e, rfl⟩⟩
  · exact ⟨_, .inr ⟨fun i k hi hk e => h ⟨i, k, hi, hk, e⟩, rfl⟩⟩
theorem str_of {s : ByteArray} {l : List UInt8} (h : s.data.toList = l) : s = ⟨l.toArray⟩ := by
  apply ByteArray.ext
  apply Array.toList_inj.1
  simp [h]
end Go.Proofs.YtdmihbicpjmgjaaDoor
