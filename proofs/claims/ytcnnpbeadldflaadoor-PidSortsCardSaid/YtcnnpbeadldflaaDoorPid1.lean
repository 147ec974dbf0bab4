/-
  Contracts of layer 3: processes and ballots as numbers.
-/
import Derived.Test.YtcnnpbeadldflaaDoorOpen
import Derived.Test.YtcnnpbeadldflaaDoorReg1
import Derived.Outline
namespace Go.Proofs.YtcnnpbeadldflaaDoor
open Go.RowKit
set_option linter.unusedVariables false
set_option linter.unusedSimpArgs false

/-- A process as a value. -/
def aheadB (i c j d : Nat) : Bool := decide (i * 4294967296 + c < j * 4294967296 + d)
theorem aheadB_eq (i c j d : Nat) (hc : c < 4294967296) (hd : d < 4294967296) : aheadB i c j d = if i = j then decide (c < d) else decide (i < j) := by
  unfold aheadB
  by_cases h : i = j
  · subst h; rw [if_pos rfl]; congr 1; apply propext; omega
  · rw [if_neg h]; congr 1; apply propext; omega
def beforeB (r i c s j d : Nat) : Bool := if r = s then aheadB i c j d else decide (r < s)
theorem or_join (k x y : Nat) (hy : y < 2 ^ k) : x * 2 ^ k ||| y = x * 2 ^ k + y := by
  rw [Nat.mul_comm, Nat.two_pow_add_eq_or_of_lt hy]
theorem or_32 (x y : Nat) (hx : x < 65536) (hy : y < 4294967296) : bits .or .u64 ((x : Int) * 4294967296) (y : Int) = ((x * 4294967296 + y : Nat) : Int) := by
  have h1 : ((x : Int) * 4294967296) = ((x * 4294967296 : Nat) : Int) := by omega
  rw [h1]
  show IntKind.u64.wrap ((BitVec.ofInt 64 ((x * 4294967296 : Nat) : Int) ||| BitVec.ofInt 64 (y : Int)).toNat : Int) = _
  rw [BitVec.toNat_or, BitVec.ofInt_natCast, BitVec.ofInt_natCast, BitVec.toNat_ofNat, BitVec.toNat_ofNat, Nat.mod_eq_of_lt (by omega), Nat.mod_eq_of_lt (by omega), or_join 32 _ _ (by omega), IntKind.wrap_u64]
  omega

theorem number_any (i c : Nat) (w : World) (hi : i < 65536) (hc : c < 4294967296) :
    Calls Tryd.prog 28 #[.agg #[.int .u16 (i : Int), .int .u32 (c : Int)]] w fun e w' => e = .returned (.int .u64 ((i * 4294967296 + c : Nat) : Int)) ∧ Below w.heap.size w w' := by
  go_enter Tryd.func28, Tryd.ntmps28
  go_wp2
  go_ret
  exact ⟨ret_int (or_32 i c hi hc), (Below.refl _ _).alloc (Nat.le_refl _) _⟩
set_option maxRecDepth 100000 in
theorem ahead_any (i c j d : Nat) (w : World) (hi : i < 65536) (hc : c < 4294967296) (hj : j < 65536) (hd : d < 4294967296) :
    Calls Tryd.prog 8 #[.agg #[.int .u16 (i : Int), .int .u32 (c : Int)], .agg #[.int .u16 (j : Int), .int .u32 (d : Int)]] w fun e w' => e = .returned (.bool (aheadB i c j d)) ∧ Below w.heap.size w w' := by
  obtain ⟨m, hm⟩ : ∃ m : Nat, m = i * 4294967296 + c := ⟨_, rfl⟩
  obtain ⟨n, hn⟩ : ∃ n : Nat, n = j * 4294967296 + d := ⟨_, rfl⟩
  have c1 := fun W => number_any i c W hi hc
  have c2 := fun W => number_any j d W hj hd
  rw [← hm] at c1
  rw [← hn] at c2
  have hr : aheadB i c j d = decide (m < n) := by rw [hm, hn]; rfl
  rw [hr]
  clear hr hm hn
  go_enter Tryd.func8, Tryd.ntmps8
  go_wp2
  have f0 : ((w.alloc (.cells #[.int .u16 (i : Int), .int .u32 (c : Int)] 25)).alloc (.cells #[.int .u16 (j : Int), .int .u32 (d : Int)] 25)).cell? ⟨w.heap.size, 0, none⟩ = some (.int .u16 (i : Int)) := by go_simp
  have f1 : ((w.alloc (.cells #[.int .u16 (i : Int), .int .u32 (c : Int)] 25)).alloc (.cells #[.int .u16 (j : Int), .int .u32 (d : Int)] 25)).cell? ⟨w.heap.size, 1, none⟩ = some (.int .u32 (c : Int)) := by go_simp
  have f2 : ((w.alloc (.cells #[.int .u16 (i : Int), .int .u32 (c : Int)] 25)).alloc (.cells #[.int .u16 (j : Int), .int .u32 (d : Int)] 25)).cell? ⟨w.heap.size + 1, 0, none⟩ = some (.int .u16 (j : Int)) := by go_simp
  have f3 : ((w.alloc (.cells #[.int .u16 (i : Int), .int .u32 (c : Int)] 25)).alloc (.cells #[.int .u16 (j : Int), .int .u32 (d : Int)] 25)).cell? ⟨w.heap.size + 1, 1, none⟩ = some (.int .u32 (d : Int)) := by go_simp
  have hb : Below w.heap.size w ((w.alloc (.cells #[.int .u16 (i : Int), .int .u32 (c : Int)] 25)).alloc (.cells #[.int .u16 (j : Int), .int .u32 (d : Int)] 25)) := ((Below.refl _ _).alloc (Nat.le_refl _) _).alloc (by simp) _
  generalize ((w.alloc (.cells #[.int .u16 (i : Int), .int .u32 (c : Int)] 25)).alloc (.cells #[.int .u16 (j : Int), .int .u32 (d : Int)] 25)) = w1 at f0 f1 f2 f3 hb ⊢
  have g0 := Later.cell f0
  have g1 := Later.cell f1
  have g2 := Later.cell f2
  have g3 := Later.cell f3
  clear f0 f1 f2 f3
  refine wp_region_calm (by kernel_rfl) (by kernel_rfl) ?_
  have k1 := fun x : Later w1 => calm_of (c1 x.w)
  have k2 := fun x : Later w1 => calm_of (c2 x.w)
  clear c1 c2
  repeat (go_big_quiet_step ((go_at_call 28; first | with_reducible exact k1 _ | with_reducible exact k2 _)))
  refine wpQuiet_nil ?_
  rintro _ ⟨x9, rfl⟩
  have hb9 := x9.below
  generalize x9.w = w9 at hb9 ⊢
  go_wp2
  go_ret
  exact ⟨rfl, hb.trans (hb9.mono hb.size)⟩
theorem rahead_any (i c j d : Nat) (w : World) (hi : i < 65536) (hc : c < 4294967296) (hj : j < 65536) (hd : d < 4294967296) :
    Calls Tryd.prog 9 #[.agg #[.int .u16 (i : Int), .int .u32 (c : Int)], .agg #[.int .u16 (j : Int), .int .u32 (d : Int)]] w fun e w' => e = .returned (.bool (aheadB i c j d)) ∧ Below w.heap.size w w' := by
  by_cases h : i = j
  · subst h
    have hr : aheadB i c i d = decide (c < d) := by rw [aheadB_eq _ _ _ _ hc hd, if_pos rfl]
    rw [hr]
    clear hr
    go_enter Tryd.func9, Tryd.ntmps9
    go_wp2
    go_ret
    exact ⟨rfl, ((Below.refl _ _).alloc (Nat.le_refl _) _).alloc (by simp) _⟩
  · have hr : aheadB i c j d = decide (i < j) := by rw [aheadB_eq _ _ _ _ hc hd, if_neg h]
    have hne : ((i : Int) != (j : Int)) = true := by simp; omega
    rw [hr]
    clear hr
    go_enter Tryd.func9, Tryd.ntmps9
    go_wp2
    go_ret
    exact ⟨rfl, ((Below.refl _ _).alloc (Nat.le_refl _) _).alloc (by simp) _⟩
theorem before_any (r i c s j d : Nat) (w : World) (hi : i < 65536) (hc : c < 4294967296) (hj : j < 65536) (hd : d < 4294967296) :
    Calls Tryd.prog 10 #[.agg #[.int .u32 (r : Int), .int .u16 (i : Int), .int .u32 (c : Int)], .agg #[.int .u32 (s : Int), .int .u16 (j : Int), .int .u32 (d : Int)]] w fun e w' => e = .returned (.bool (beforeB r i c s j d)) ∧ Below w.heap.size w w' := by
  by_cases h : r = s
  · subst h
    have hr : beforeB r i c r j d = aheadB i c j d := by rw [beforeB, if_pos rfl]
    rw [hr]
    clear hr
    go_enter Tryd.func10, Tryd.ntmps10
    go_wp2_with fail
    refine (ahead_any i c j d _ hi hc hj hd).mono ?_
    rintro e w1 ⟨rfl, hb⟩
    go_wp2
    go_ret
    exact ⟨rfl, (((Below.refl _ _).alloc (Nat.le_refl _) _).alloc (by simp) _).trans (hb.mono (by simp; omega))⟩
  · have hr : beforeB r i c s j d = decide (r < s) := by rw [beforeB, if_neg h]
    have hne : ((r : Int) != (s : Int)) = true := by simp; omega
    rw [hr]
    clear hr
    go_enter Tryd.func10, Tryd.ntmps10
    go_wp2
    go_ret
    exact ⟨rfl, ((Below.refl _ _).alloc (Nat.le_refl _) _).alloc (by simp) _⟩
theorem rbefore_any (r i c s j d : Nat) (w : World) (hi : i < 65536) (hc : c < 4294967296) (hj : j < 65536) (hd : d < 4294967296) :
    Calls Tryd.prog 11 #[.agg #[.int .u32 (r : Int), .int .u16 (i : Int), .int .u32 (c : Int)], .agg #[.int .u32 (s : Int), .int .u16 (j : Int), .int .u32 (d : Int)]] w fun e w' => e = .returned (.bool (beforeB r i c s j d)) ∧ Below w.heap.size w w' := by
  by_cases h : r = s
  · subst h
    have hr : beforeB r i c r j d = aheadB i c j d := by rw [beforeB, if_pos rfl]
    rw [hr]
    clear hr
    go_enter Tryd.func11, Tryd.ntmps11
    go_wp2_with fail
    refine (rahead_any i c j d _ hi hc hj hd).mono ?_
    rintro e w1 ⟨rfl, hb⟩
    go_wp2
    go_ret
    exact ⟨rfl, (((Below.refl _ _).alloc (Nat.le_refl _) _).alloc (by simp) _).trans (hb.mono (by simp; omega))⟩
  · have hr : beforeB r i c s j d = decide (r < s) := by rw [beforeB, if_neg h]
    have hne : ((r : Int) != (s : Int)) = true := by simp; omega
    rw [hr]
    clear hr
    go_enter Tryd.func11, Tryd.ntmps11
    go_wp2
    go_ret
    exact ⟨rfl, ((Below.refl _ _).alloc (Nat.le_refl _) _).alloc (by simp) _⟩
theorem next_any (r i c j d : Nat) (w : World) (hr : r < 4294967295) (hj : j < 65536) (hd : d < 4294967296) :
    Calls Tryd.prog 12 #[.agg #[.int .u32 (r : Int), .int .u16 (i : Int), .int .u32 (c : Int)], .agg #[.int .u16 (j : Int), .int .u32 (d : Int)]] w fun e w' => e = .returned (.tuple #[.agg #[.int .u32 ((r : Int) + 1), .int .u16 (j : Int), .int .u32 (d : Int)], .int .i64 0]) ∧ Below w.heap.size w w' := by
  have hne : ((r : Int) == 4294967295) = false := by simp; omega
  go_enter Tryd.func12, Tryd.ntmps12
  go_wp2
  exact bodyPost_ret (v := .tuple #[.agg #[.int .u32 ((r : Int) + 1), .int .u16 (j : Int), .int .u32 (d : Int)], .int .i64 0]) (by simp [results, Tryd.results12, go_sem]) rfl ⟨rfl, ((((Below.refl _ _).alloc (Nat.le_refl _) _).alloc (by simp) _).alloc (by simp; omega) _)⟩
theorem next_no (i c j d : Nat) (w : World) :
    Calls Tryd.prog 12 #[.agg #[.int .u32 4294967295, .int .u16 (i : Int), .int .u32 (c : Int)], .agg #[.int .u16 (j : Int), .int .u32 (d : Int)]] w fun e w' => e = .returned (.tuple #[.agg #[.int .u32 0, .int .u16 0, .int .u32 0], .int .i64 16]) ∧ Below w.heap.size w w' := by
  go_enter Tryd.func12, Tryd.ntmps12
  go_wp2
  exact bodyPost_ret (v := .tuple #[.agg #[.int .u32 0, .int .u16 0, .int .u32 0], .int .i64 16]) (by simp [results, Tryd.results12, go_sem]) rfl ⟨rfl, ((((Below.refl _ _).alloc (Nat.le_refl _) _).alloc (by simp) _).alloc (by simp; omega) _)⟩
end Go.Proofs.YtcnnpbeadldflaaDoor
