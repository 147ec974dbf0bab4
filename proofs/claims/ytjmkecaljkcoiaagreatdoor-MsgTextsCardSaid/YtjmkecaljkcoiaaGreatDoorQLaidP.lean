import Derived.Test.YtjmkecaljkcoiaaGreatDoorQMsgT
import Derived.Test.YtjmkecaljkcoiaaGreatDoorQMsg5
import Derived.Test.YtjmkecaljkcoiaaGreatDoorQCmdU
import Derived.Test.YtjmkecaljkcoiaaGreatDoorQViewT
import Derived.Test.YtjmkecaljkcoiaaGreatDoorRows
import Derived.Stop.LaidErr
import Derived.LaidByTextLater
import Derived.Test.YtjmkecaljkcoiaaGreatDoorQPid4
namespace Go.Proofs.YtjmkecaljkcoiaaGreatDoor
open Go.RowKit Go.Maps Go.Lib
set_option linter.unusedVariables false
set_option linter.unusedSimpArgs false
def Words (w : World) : Prop := ∀ i, i < 15 → w.cell? ⟨0, i * 2, none⟩ = some (.string (txt (wordL i)))
theorem Words.lt {w : World} (h : Words w) : 0 < w.heap.size := World.block_lt_of_cell? w _ (h 0 (by decide))
theorem Words.later {w w' : World} (h : Words w) (hb : Below w.heap.size w w') : Words w' := fun i hi => (hb.cell (p := ⟨0, i * 2, none⟩) h.lt).trans (h i hi)
theorem mdecimal_any (n : Nat) (w : World) (hn : n < 18446744073709551616) (hP : Pows w) :
    Calls Tryz.prog 68 #[.int .u64 n] w fun e w' => e = .returned (.string (decS n)) ∧ Below w.heap.size w w' := by
  have cf := fmtu_any n hn w hP
  go_enter Tryz.func68, Tryz.ntmps68
  go_wp2_with fail
  refine cf.mono ?_
  rintro e w2 ⟨rfl, hb⟩
  go_wp2
  go_ret
  exact ⟨rfl, hb⟩
theorem bal_txt (b : Bl) : decS b.r ++ (⟨#[58]⟩ : ByteArray) ++ pidS b.p.i b.p.k = txt (balT b) := by
  unfold balT decS pidS txt
  apply ByteArray.ext
  apply Array.toList_inj.1
  simp [ByteArray.data_append]
set_option maxRecDepth 100000 in
theorem mballot_any (b : Bl) (w : World) (hP : Pows w) :
    Calls Tryz.prog 69 #[.agg #[.int .u32 b.r, .int .u16 b.p.i, .int .u32 b.p.k]] w fun e w' => e = .returned (.string (txt (balT b))) ∧ Below w.heap.size w w' := by
  have hbz : Below w.heap.size w (w.alloc (.cells #[.int .u32 b.r, .int .u16 b.p.i, .int .u32 b.p.k] 46)) := (Below.refl _ _).alloc (Nat.le_refl _) _
  have hr := b.hr
  have wr : IntKind.u64.wrap (b.r : Int) = (b.r : Int) := by rw [IntKind.wrap_u64]; omega
  have c0 : (w.alloc (.cells #[.int .u32 b.r, .int .u16 b.p.i, .int .u32 b.p.k] 46)).cell? ⟨w.heap.size, 0, none⟩ = some (.int .u32 b.r) := by go_simp
  have c1 : (w.alloc (.cells #[.int .u32 b.r, .int .u16 b.p.i, .int .u32 b.p.k] 46)).cell? ⟨w.heap.size, 1, none⟩ = some (.int .u16 b.p.i) := by go_simp
  have c2 : (w.alloc (.cells #[.int .u32 b.r, .int .u16 b.p.i, .int .u32 b.p.k] 46)).cell? ⟨w.heap.size, 2, none⟩ = some (.int .u32 b.p.k) := by go_simp
  have hP1 := hP.below hbz
  have s1 := sizeP9 b.p
  have s2 := sizeD9 b.r (by omega)
  have hT := hide (bal_txt b)
  go_enter Tryz.func69, Tryz.ntmps69
  go_wp2_with fail
  generalize w.alloc (.cells #[.int .u32 b.r, .int .u16 b.p.i, .int .u32 b.p.k] 46) = w1 at *
  have g0 := Later.cell c0
  have g1 := Later.cell c1
  have g2 := Later.cell c2
  have k1 := fun x : Later w1 => calm_of (mdecimal_any b.r x.w (by omega) (hP1.below x.below))
  have k2 := fun x : Later w1 => calm_of (print_any b.p.i b.p.k x.w b.p.hi b.p.hk (hP1.below x.below))
  refine wp_region_calm (by kernel_rfl) (by kernel_rfl) ?_
  repeat (go_big_quiet_step (first | (go_at_call 68; with_reducible exact k1 _) | (go_at_call 38; with_reducible exact k2 _)))
  refine wpQuiet_nil ?_
  rintro _ ⟨x9, rfl⟩
  have hb9 := x9.below
  generalize x9.w = w9 at hb9 ⊢
  go_wp2
  go_ret
  exact ⟨ret_str hT.out, hbz.trans (hb9.mono hbz.size)⟩
def StAt (w : World) (b : Nat) (s : ByteArray) : Prop := w.heap[b]? = some (.cells #[.string s] 9 (0, 0))
section
variable {w w' : World} {b : Nat} {s : ByteArray}
theorem StAt.lt (h : StAt w b s) : b < w.heap.size := lt_of_heap h
theorem StAt.cell (h : StAt w b s) : w.cell? ⟨b, 0, none⟩ = some (.string s) := cell_of_row w b 0 _ _ (0, 0) h
theorem StAt.fz (h : StAt w b s) : w.frozen? ⟨b, 0, none⟩ = false := frozen_of_row w b 0 _ _ h
theorem StAt.later (h : StAt w b s) (hb : Below w.heap.size w w') : StAt w' b s := (hb.block b h.lt).trans h
theorem StAt.set (h : StAt w b s) (t : ByteArray) : StAt (w.setCell ⟨b, 0, none⟩ (.string t)) b t := heap_setCell_same w b 0 _ _ (.string t) h
end
theorem tell_txt (T P : List UInt8) : txt T ++ ((⟨#[32]⟩ : ByteArray) ++ txt P) = txt (T ++ (32 :: P)) := by
  unfold txt
  apply ByteArray.ext
  apply Array.toList_inj.1
  simp [ByteArray.data_append]
theorem tell_any (hb tb q i : Nat) (t : Bool) (T P : List UInt8) (s : ByteArray) (w : World) (hq : q < 2048) (hi : i < 11) (ht : t = q.testBit i) (hs : t = true → s = txt P) (hsz : s.size ≤ 100000000) (hT : T.length ≤ 100000000)
    (ch : w.cell? ⟨hb, 0, none⟩ = some (.int .u16 q)) (ct : StAt w tb (txt T)) :
    Calls Tryz.prog 66 #[.int .u16 ((2 ^ i : Nat) : Int), .string s, .pointer (some ⟨hb, 0, none⟩), .pointer (some ⟨tb, 0, none⟩)] w fun e w' => e = .returned (.tuple #[]) ∧ w' = (if t then w.setCell ⟨tb, 0, none⟩ (.string (txt (T ++ (32 :: P)))) else w) := by
  have cw := fun W => fwith_any q (2 ^ i) W t (by omega) (Nat.lt_of_lt_of_le (Nat.pow_lt_pow_right (by decide) hi) (by decide)) (by rw [ht]; exact (with_bit q i).symm)
  have c0 := ct.cell
  have fz := ct.fz
  have z1 := txt_size T
  generalize (2 ^ i : Nat) = k at *
  clear ht
  cases t
  · rw [if_neg (by decide)]
    clear hs
    go_enter Tryz.func66, Tryz.ntmps66
    go_wp2_with fail
    refine (cw _).mono ?_
    rintro e w2 ⟨rfl, rfl⟩
    go_wp2
    go_end0
    exact ⟨rfl, rfl⟩
  · rw [if_pos rfl]
    have e := hs rfl
    subst e
    have z2 := txt_size P
    have HT := hide (tell_txt T P)
    clear hs
    go_enter Tryz.func66, Tryz.ntmps66
    go_wp2_with fail
    refine (cw _).mono ?_
    rintro e w2 ⟨rfl, rfl⟩
    go_wp2
    go_end0
    exact ⟨rfl, by rw [HT.out]⟩
theorem num_txt (c : UInt8) (n : Nat) : (⟨#[32]⟩ : ByteArray) ++ txt [c] ++ decS n = txt (32 :: c :: decDigits n) := by
  unfold decS txt
  apply ByteArray.ext
  apply Array.toList_inj.1
  simp [ByteArray.data_append]
theorem bal_txt2 (c : UInt8) (b : Bl) : txt (32 :: c :: decDigits b.r) ++ (⟨#[58]⟩ : ByteArray) ++ pidS b.p.i b.p.k = txt (32 :: c :: balT b) := by
  unfold balT pidS txt
  apply ByteArray.ext
  apply Array.toList_inj.1
  simp [ByteArray.data_append]
theorem dnumber_any (c : UInt8) (n : Nat) (w : World) (hn : n < 18446744073709551616) :
    Calls Tryz.prog 73 #[.string (txt [c]), .int .u64 n] w fun e w' => e = .returned (.string (txt (32 :: c :: decDigits n))) ∧ Below w.heap.size w w' := by
  have cd : Calls Tryz.prog 43 #[.int .u64 n] w fun e w' => e = .returned (.string (decS n)) ∧ Below w.heap.size w w' := digits_any 19 n w (by omega) hn
  have s1 := txt_size [c]
  have s2 := sizeD9 n hn
  have hT := hide (num_txt c n)
  have s1' : (txt [c]).size = 1 := s1
  clear s1
  generalize txt [c] = C at *
  generalize decS n = D at *
  go_enter Tryz.func73, Tryz.ntmps73
  go_wp2_with fail
  refine cd.mono ?_
  rintro e w2 ⟨rfl, hb⟩
  go_wp2
  go_ret
  exact ⟨ret_str hT.out, hb⟩
set_option maxRecDepth 100000 in
theorem dballot_any (c : UInt8) (b : Bl) (w : World) :
    Calls Tryz.prog 74 #[.string (txt [c]), .agg #[.int .u32 b.r, .int .u16 b.p.i, .int .u32 b.p.k]] w fun e w' => e = .returned (.string (txt (32 :: c :: balT b))) ∧ Below w.heap.size w w' := by
  have hbz : Below w.heap.size w (w.alloc (.cells #[.int .u32 b.r, .int .u16 b.p.i, .int .u32 b.p.k] 46)) := (Below.refl _ _).alloc (Nat.le_refl _) _
  have hr := b.hr
  have wr : IntKind.u64.wrap (b.r : Int) = (b.r : Int) := by rw [IntKind.wrap_u64]; omega
  have c0 : (w.alloc (.cells #[.int .u32 b.r, .int .u16 b.p.i, .int .u32 b.p.k] 46)).cell? ⟨w.heap.size, 0, none⟩ = some (.int .u32 b.r) := by go_simp
  have c1 : (w.alloc (.cells #[.int .u32 b.r, .int .u16 b.p.i, .int .u32 b.p.k] 46)).cell? ⟨w.heap.size, 1, none⟩ = some (.int .u16 b.p.i) := by go_simp
  have c2 : (w.alloc (.cells #[.int .u32 b.r, .int .u16 b.p.i, .int .u32 b.p.k] 46)).cell? ⟨w.heap.size, 2, none⟩ = some (.int .u32 b.p.k) := by go_simp
  have s1 := sizeP9 b.p
  have s2 : (txt (32 :: c :: decDigits b.r)).size ≤ 22 := by rw [txt_size]; have := nDigits_20 b.r (by omega); simp only [List.length_cons]; omega
  have hT := hide (bal_txt2 c b)
  go_enter Tryz.func74, Tryz.ntmps74
  go_wp2_with fail
  generalize w.alloc (.cells #[.int .u32 b.r, .int .u16 b.p.i, .int .u32 b.p.k] 46) = w1 at *
  have g0 := Later.cell c0
  have g1 := Later.cell c1
  have g2 := Later.cell c2
  have k1 := fun x : Later w1 => calm_of (dnumber_any c b.r x.w (by omega))
  have k2 := fun x : Later w1 => calm_of (rprint_any b.p.i b.p.k x.w b.p.hi b.p.hk)
  generalize txt (32 :: c :: decDigits b.r) = D at *
  generalize txt [c] = C at *
  generalize pidS b.p.i b.p.k = S at *
  refine wp_region_calm (by kernel_rfl) (by kernel_rfl) ?_
  repeat (go_big_quiet_step (first | (go_at_call 73; with_reducible exact k1 _) | (go_at_call 44; with_reducible exact k2 _)))
  refine wpQuiet_nil ?_
  rintro _ ⟨x9, rfl⟩
  have hb9 := x9.below
  generalize x9.w = w9 at hb9 ⊢
  go_wp2
  go_ret
  exact ⟨ret_str hT.out, hbz.trans (hb9.mono hbz.size)⟩
end Go.Proofs.YtjmkecaljkcoiaaGreatDoor
namespace Go.Proofs.YtjmkecaljkcoiaaGreatDoor
set_option linter.unusedSimpArgs false
open Go.RowKit Go.Lib Go.ChangeShapes Go.WideShapes
theorem kindD_word {H : Type} {i : Nat} (hi : i < 15) : (kindD i : DataW H) = .agg [.lit (.string (wordL i)), .lit (.int .u16 ((tabM i : Nat) : Int))] := by
  have : i = 0 ∨ i = 1 ∨ i = 2 ∨ i = 3 ∨ i = 4 ∨ i = 5 ∨ i = 6 ∨ i = 7 ∨ i = 8 ∨ i = 9 ∨ i = 10 ∨ i = 11 ∨ i = 12 ∨ i = 13 ∨ i = 14 := by omega
  rcases this with rfl | rfl | rfl | rfl | rfl | rfl | rfl | rfl | rfl | rfl | rfl | rfl | rfl | rfl | rfl <;> rfl
set_option maxRecDepth 100000 in
theorem words_of {W : World} {rest : List (String × DataW Unit)} (h : laidMet Tryz.prog (("choragus/msg.kinds", Rows.laid_choragus_msg_kinds) :: rest) W) : Words W := by
  obtain ⟨ps, ⟨g', t', cs, fuel, p, q, hg', ht', hvar, hd, _, _⟩, _⟩ := h
  obtain rfl := Option.some.inj (gKinds.symm.trans hg')
  obtain rfl := Option.some.inj (tKinds.symm.trans ht')
  obtain ⟨xs, m, _, hx, hl, hlen, hf⟩ := DataW.trod_array Tryz.underlying111 hd
  rw [cellsKinds] at hl
  simp only [cellsKind] at hf
  intro i hi
  have hfi := hf i hi
  have hxl : i < xs.length := by omega
  rw [List.getElem?_eq_getElem hxl] at hfi
  obtain ⟨s, n, e, e2⟩ := kind_cells hfi
  have hk : (xs[i].1 : DataW Unit) = kindD i := by
    have e3 := congrArg Prod.fst hx
    simp only at e3
    unfold kindD
    rw [e3]
    simp [List.getD, hxl]
  rw [hk, kindD_word hi] at e2
  have hs : s = txt (wordL i) := by
    injection e2 with e2
    injection e2 with e2 _
    injection e2 with e2
    injection e2 with e2
    rw [e2]
    exact txt_of s
  have hc := World.var?_cell gKinds hvar (i * 2)
  rw [hc]
  have := congrArg (·[0]?) e
  simp only [List.getElem?_take, List.getElem?_drop] at this
  simp at this
  rw [← hs]
  simpa using this
end Go.Proofs.YtjmkecaljkcoiaaGreatDoor
namespace Go.Proofs.YtjmkecaljkcoiaaGreatDoor
open Go.RowKit Go.Lib
theorem gPow : Tryz.prog.globalNamed "internal/strconv.uint64pow10" = some 3 := by kernel_rfl
theorem tPow : (Tryz.prog.globals[3]?).map (·.type) = some 228 := by kernel_rfl
theorem cellsU64 : Tryz.prog.cellsOf 22 = 1 := by kernel_rfl
theorem cellsPow : Tryz.prog.cellsOf 228 = 20 := by kernel_rfl
theorem pows_of {W : World} {rest : List (String × DataW Unit)} (h : laidMet Tryz.prog (("internal/strconv.uint64pow10", Rows.laid_internal_strconv_uint64pow10) :: rest) W) : Pows W :=
  tabIs_of_head (rest := rest) gPow tPow Tryz.underlying228 Tryz.underlying22 cellsU64 cellsPow h
end Go.Proofs.YtjmkecaljkcoiaaGreatDoor
