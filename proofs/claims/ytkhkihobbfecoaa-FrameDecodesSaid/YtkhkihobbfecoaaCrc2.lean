/-
  Contracts of Seal and Open, of the document's answer, and of the examples of layer 2.
-/
import Derived.Test.YtkhkihobbfecoaaPut1
import Derived.Test.YtkhkihobbfecoaaGet1
import Derived.Test.YtkhkihobbfecoaaLent1
import Derived.Test.YtkhkihobbfecoaaCrc1
import Derived.Lib.SlBytesConst
namespace Go.Proofs.Ytkhkihobbfecoaa
open Go.RowKit
set_option linter.unusedVariables false

/-- A literal's row with a mark behind it. -/
theorem bs_mark (w : World) (t : TypeId) (fr : Nat × Nat) (l : List UInt8) (cs : Array Value) (n : Nat) (hc : cs = (bvs l).toArray) (hn : l.length = n) : Bs (w.alloc (.cells cs t fr)) (w.heap.size + 1) (some ⟨w.heap.size, 0, none⟩) n l := by
  subst hc
  refine ⟨hn, fun _ => ⟨_, rfl, Nat.lt_succ_self _, fun j x hj => ?_⟩⟩
  have h := World.cell?_alloc_mark w (bvs l).toArray t fr j
  have e : (⟨w.heap.size, 0, none⟩ : Addr).add j = ⟨w.heap.size, j, none⟩ := by
    unfold Addr.add; split
    · subst_vars; rfl
    · simp
  rw [e, h]
  simp [bvs, hj]
/-- Sealed bytes. -/
def sealL (l : List UInt8) : List UInt8 := l ++ formL (sumN l) 4
theorem sealL_len (l : List UInt8) : (sealL l).length = l.length + 4 := by simp [sealL, formL_len]

theorem seal_any (A : Option Addr) (n c : Nat) (l : List UInt8) (B : Nat) (w : World) (hA : Bs w B A n l) (hB : B ≤ w.heap.size) (hn : n ≤ 70368744177664) :
    Calls Try.prog 25 #[.slice A n c] w fun e w' => ∃ A' c', e = .returned (.slice A' (n + 4) c') ∧
      OwnB w' w.heap.size (.slice A' (n + 4) c') (n + 4) (sealL l) ∧ Below w.heap.size w w' := by
  obtain ⟨s, hs⟩ : ∃ s, s = sumN l := ⟨_, rfl⟩
  have e1 : sumN [l].flatten = s := by rw [hs]; simp
  have hs32 : s < 4294967296 := by rw [hs]; exact sumN_lt l
  have HS := hide hs
  have E1 := hide e1
  clear e1 hs
  go_enter Try.func25, Try.ntmps25
  go_wp2_with fail
  refine (sum_any _ 1 _ [l] _ _ (Ps.one _ rfl hA (by unfold maxLen; omega) hB) (by decide)).mono ?_
  rintro e w' ⟨rfl, rfl⟩
  rw [E1.out]
  go_wp2_with fail
  refine (put_any A n c l B s 4 _ (hA.alloc hB _) ?c1 hn ?c2 (by decide)).mono ?_
  case c1 => simp; omega
  case c2 => omega
  rintro e w2 ⟨rfl, hown, hb, hlt⟩
  simp only [World.size_alloc] at hown
  go_wp2
  go_ret
  refine ⟨_, _, rfl, ?_, ?_⟩
  · unfold sealL; rw [← HS.out]; exact hown.mono (base' := w.heap.size) (by simp)
  · exact ((Below.refl _ _).alloc (Nat.le_refl _) _).trans (hb.mono (by simp))

theorem seal_drop {l : List UInt8} {n : Nat} (h : l.length = n) : (sealL l).drop n = formL (sumN l) 4 := by
  subst h; simp [sealL]
theorem seal_take {l : List UInt8} {n : Nat} (h : l.length = n) : (sealL l).take n = l := by
  subst h; simp [sealL]
theorem seal_num (l : List UInt8) : numL (formL (sumN l) 4) = sumN l := by
  rw [numL_form]; exact Nat.mod_eq_of_lt (sumN_lt l)
theorem seal_opens {l : List UInt8} {n : Nat} (h : l.length = n) : numL ((sealL l).drop n) = sumN ((sealL l).take n) := by
  rw [seal_drop h, seal_take h, seal_num]
theorem open_short (A : Option Addr) (n c : Nat) (w : World) (hn : n < 4) :
    Calls Try.prog 33 #[.slice A n c] w fun e w' => e = .returned (.tuple #[.slice none 0 0, .int .i64 2]) ∧ w = w' := by
  go_enter Try.func33, Try.ntmps33
  go_wp2
  go_ret2
  exact ⟨rfl, rfl⟩
theorem ropen_short (A : Option Addr) (n c : Nat) (w : World) (hn : n < 4) :
    Calls Try.prog 36 #[.slice A n c] w fun e w' => e = .returned (.tuple #[.slice none 0 0, .int .i64 2]) ∧ w = w' := by
  have t : (n : Int) - 4 < 0 := by omega
  go_enter Try.func36, Try.ntmps36
  go_wp2
  go_ret2
  exact ⟨rfl, rfl⟩
theorem open_no (A : Option Addr) (m n c : Nat) (l : List UInt8) (B : Nat) (w : World) (hA : Bs w B A n l) (hB : B ≤ w.heap.size) (hm : n = m + 4) (hnc : n ≤ c) (hn : n ≤ 70368744177664) (hs : numL (l.drop m) ≠ sumN (l.take m)) :
    Calls Try.prog 33 #[.slice A n c] w fun e w' => e = .returned (.tuple #[.slice none 0 0, .int .i64 4]) ∧ Below w.heap.size w w' := by
  have hw4 : IntKind.i64.wrap ((n : Int) - 4) = (m : Int) := by rw [IntWalk.i64_in _ (by omega)]; omega
  have hmn : m ≤ n := by omega
  have h4 : 4 ≤ n := by omega
  have hmc : m < c := by omega
  have h44 : 4 ≤ n - m := by omega
  have hF := hA.cut hmn hnc
  rw [if_neg (by omega)] at hF
  have hT := hA.take hmn
  obtain ⟨s, hS⟩ : ∃ s, s = sumN (l.take m) := ⟨_, rfl⟩
  obtain ⟨x, hX⟩ : ∃ x, x = numL ((l.drop m).take 4) := ⟨_, rfl⟩
  have hx : x = numL (l.drop m) := by rw [hX, List.take_of_length_le (by rw [hF.len]; omega)]
  rw [← hx, ← hS] at hs
  have hs32 : s < 4294967296 := by rw [hS]; exact sumN_lt _
  have t : ((x : Int) != (s : Int)) = true := by simp only [bne_iff_ne, ne_eq]; omega
  have E1 : sumN [l.take m].flatten = s := by rw [hS]; simp
  have E2 := hide E1
  have HX := hide hX
  clear hm hs hS hX hx E1
  go_enter Try.func33, Try.ntmps33
  go_wp2
  go_quiet (fail)
  go_wp2_with fail
  refine (get_any _ (n - m) (c - m) 4 (l.drop m) B _ (hF.drewN nq) (by unfold maxLen; omega) (by omega) (by decide) h44).mono ?_
  rintro e w' ⟨rfl, rfl⟩
  rw [← HX.out]
  go_wp2_with fail
  refine (sum_any _ 1 _ [l.take m] _ _ (Ps.one _ rfl (hT.drewN nq) (by unfold maxLen; omega) hB) (by decide)).mono ?_
  rintro e w' ⟨rfl, rfl⟩
  rw [E2.out]
  go_wp2
  go_ret2
  exact ⟨rfl, (below_drewN (Below.refl _ _) nq).alloc (Nat.le_refl _) _⟩
theorem open_yes (A : Option Addr) (m n c : Nat) (l : List UInt8) (B : Nat) (w : World) (hA : Bs w B A n l) (hB : B ≤ w.heap.size) (hm : n = m + 4) (hnc : n ≤ c) (hn : n ≤ 70368744177664) (hs : numL (l.drop m) = sumN (l.take m)) :
    Calls Try.prog 33 #[.slice A n c] w fun e w' => ∃ A' c', e = .returned (.tuple #[.slice A' m c', .int .i64 0]) ∧
      OwnB w' w.heap.size (.slice A' m c') m (l.take m) ∧ Below w.heap.size w w' := by
  have hw4 : IntKind.i64.wrap ((n : Int) - 4) = (m : Int) := by rw [IntWalk.i64_in _ (by omega)]; omega
  have hmn : m ≤ n := by omega
  have h4 : 4 ≤ n := by omega
  have hmc : m < c := by omega
  have h44 : 4 ≤ n - m := by omega
  have hF := hA.cut hmn hnc
  rw [if_neg (by omega)] at hF
  have hT := hA.take hmn
  obtain ⟨s, hS⟩ : ∃ s, s = sumN (l.take m) := ⟨_, rfl⟩
  have hX : numL ((l.drop m).take 4) = s := by rw [List.take_of_length_le (by rw [hF.len]; omega), hs, hS]
  have hs32 : s < 4294967296 := by rw [hS]; exact sumN_lt _
  have E1 : sumN [l.take m].flatten = s := by rw [hS]; simp
  have E2 := hide E1
  have HX := hide hX
  have hmk := fun W => mk_bytes m m (m : Int) rfl (Nat.le_refl _) (by omega) W
  obtain ⟨cs, hcs⟩ : ∃ cs, cs = bvs (l.take m) := ⟨_, rfl⟩
  have hlen : cs.length = m := by rw [hcs, bvs_len]; exact hT.len
  have hone : ∀ v ∈ cs, v.oneCell' = true := by rw [hcs]; exact bvs_one _
  have HCS := hide hcs
  have HL := hide hlen
  clear hm hs hS hX E1 hcs hlen
  go_enter Try.func33, Try.ntmps33
  go_wp2
  go_quiet (fail)
  go_wp2_with fail
  refine (get_any _ (n - m) (c - m) 4 (l.drop m) B _ (hF.drewN nq) (by unfold maxLen; omega) (by omega) (by decide) h44).mono ?_
  rintro e w' ⟨rfl, rfl⟩
  rw [HX.out]
  go_wp2_with fail
  refine (sum_any _ 1 _ [l.take m] _ _ (Ps.one _ rfl (hT.drewN nq) (by unfold maxLen; omega) hB) (by decide)).mono ?_
  rintro e w' ⟨rfl, rfl⟩
  rw [E2.out]
  go_wp2_with (with_reducible refine wpList_copy_splice rfl _ _ _ _ rfl 5 Try.underlying27 (by kernel_rfl) _ _ _ _ _ _ rfl rfl (w.heap.size + 1) 0 (zeroBytes m) 5 ?h0 cs ?h1 ?h2 ?h3 hone w.heap.size w ?h4 (by omega) ?_)
  case h0 => have := heap_alloc_new ((w.drewN nq).alloc (.cells #[.slice A m c] 27)) (.cells (zeroBytes m).toArray 5); simpa using this
  case h1 => rw [HL.out]; simp
  case h2 => exact (((hT.drewN nq).alloc hB _).alloc (by simp; omega) _).src HCS.out
  case h3 => rw [HL.out, zeroBytes_len]; omega
  case h4 => exact ((below_drewN (Below.refl _ _) nq).alloc (Nat.le_refl _) _).alloc (by simp) _
  intro w2 HG hb
  go_wp2
  go_ret2
  have hg := HG.out
  have e : (splice (zeroBytes m) 0 cs).take m = bvs (l.take m) := by
    rw [← HCS.out, ← HL.out]; simp [splice]
  exact ⟨_, _, rfl, own_of_cells hg (by omega) (by omega) (by unfold maxLen; omega) (by rw [length_splice _ _ _ (by rw [HL.out, zeroBytes_len]; omega), zeroBytes_len]) (by rw [bvs_len]; exact hT.len) e, hb⟩
theorem quiet_same {P : Program} {f : FuncId} {args : Array Value} {w : World} {n : Nat} {v : Value}
    (h : Calls P f args (w.drewN n) fun e w' => e = .returned v ∧ w.drewN n = w') : Calls P f args (w.drewN n) fun e w'' => e = .returned v ∧ ∃ m, w'' = w.drewN m :=
  h.mono fun _ _ ⟨he, hm⟩ => ⟨he, n, hm.symm⟩
theorem ropen_no (A : Option Addr) (m n c : Nat) (l : List UInt8) (B : Nat) (w : World) (hA : Bs w B A n l) (hm : n = m + 4) (hnc : n ≤ c) (hn : n ≤ 70368744177664) (hs : numL (l.drop m) ≠ sumN (l.take m)) :
    Calls Try.prog 36 #[.slice A n c] w fun e w' => e = .returned (.tuple #[.slice none 0 0, .int .i64 4]) ∧ Drawn w w' := by
  have hw4 : (n : Int) - 4 = (m : Int) := by omega
  have hmn : m ≤ n := by omega
  have h4 : 4 ≤ n := by omega
  have hmc : m < c := by omega
  have h48 : n - m ≤ 8 := by omega
  have hF := hA.cut hmn hnc
  rw [if_neg (by omega)] at hF
  have hT := hA.take hmn
  obtain ⟨s, hS⟩ : ∃ s, s = sumN (l.take m) := ⟨_, rfl⟩
  obtain ⟨x, hX⟩ : ∃ x, x = numL (l.drop m) := ⟨_, rfl⟩
  rw [← hX, ← hS] at hs
  have hs32 : s < 4294967296 := by rw [hS]; exact sumN_lt _
  have t : ((x : Int) != (s : Int)) = true := by simp only [bne_iff_ne, ne_eq]; omega
  have C1 : ∀ nq, Calls Try.prog 35 #[.slice (Option.map (fun x => x.add m) A) (n - m) (c - m)] (w.drewN nq) fun e w' => e = .returned (.int .u64 (x : Int)) ∧ (w.drewN nq) = w' := by
    intro nq; rw [hX]; exact number_any _ _ _ _ B _ (hF.drewN nq) h48
  have C2 : ∀ nq, Calls Try.prog 43 #[.slice A m c] (w.drewN nq) fun e w' => e = .returned (.int .u32 (s : Int)) ∧ (w.drewN nq) = w' := by
    intro nq; rw [hS]; exact rsum_any _ _ _ _ B _ (hT.drewN nq) (by unfold maxLen; omega)
  have C1' := hide C1
  have C2' := hide C2
  clear hm hs hS hX C1 C2
  go_enter Try.func36, Try.ntmps36
  go_wp2
  go_quiet (first | (go_at_call 35; exact quiet_same (C1'.out _)) | (go_at_call 43; exact quiet_same (C2'.out _)))
  go_wp2
  go_ret2
  exact ⟨rfl, drawn_one _ _⟩
theorem ropen_yes (A : Option Addr) (m n c : Nat) (l : List UInt8) (B : Nat) (w : World) (hA : Bs w B A n l) (hB : B ≤ w.heap.size) (hm : n = m + 4) (hnc : n ≤ c) (hn : n ≤ 70368744177664) (hs : numL (l.drop m) = sumN (l.take m)) :
    Calls Try.prog 36 #[.slice A n c] w fun e w' => ∃ A' c', e = .returned (.tuple #[.slice A' m c', .int .i64 0]) ∧
      OwnB w' w.heap.size (.slice A' m c') m (l.take m) ∧ Below w.heap.size w w' := by
  have hw4 : (n : Int) - 4 = (m : Int) := by omega
  have hmn : m ≤ n := by omega
  have h4 : 4 ≤ n := by omega
  have hmc : m < c := by omega
  have h48 : n - m ≤ 8 := by omega
  have hF := hA.cut hmn hnc
  rw [if_neg (by omega)] at hF
  have hT := hA.take hmn
  obtain ⟨s, hS⟩ : ∃ s, s = sumN (l.take m) := ⟨_, rfl⟩
  rw [← hS] at hs
  have hs32 : s < 4294967296 := by rw [hS]; exact sumN_lt _
  have C1 : ∀ nq, Calls Try.prog 35 #[.slice (Option.map (fun x => x.add m) A) (n - m) (c - m)] (w.drewN nq) fun e w' => e = .returned (.int .u64 (s : Int)) ∧ (w.drewN nq) = w' := by
    intro nq; rw [← hs]; exact number_any _ _ _ _ B _ (hF.drewN nq) h48
  have C2 : ∀ nq, Calls Try.prog 43 #[.slice A m c] (w.drewN nq) fun e w' => e = .returned (.int .u32 (s : Int)) ∧ (w.drewN nq) = w' := by
    intro nq; rw [hS]; exact rsum_any _ _ _ _ B _ (hT.drewN nq) (by unfold maxLen; omega)
  have C1' := hide C1
  have C2' := hide C2
  clear hm hs hS C1 C2
  go_enter Try.func36, Try.ntmps36
  go_wp2
  go_quiet (first | (go_at_call 35; exact quiet_same (C1'.out _)) | (go_at_call 43; exact quiet_same (C2'.out _)))
  go_wp2_with (at_builtin; refine wp_bytes_own _ rfl (.tmp 20) (.tmp 23) rfl w.heap.size 0 _ [] rfl (own_lit (w.drewN nq) _ 0 [] _ rfl rfl (by decide) (Nat.le_refl _)) _ A m c (l.take m) rfl ((hT.drewN nq).alloc hB _) ?d1 w.heap.size w ((below_drewN (Below.refl _ _) nq).alloc (Nat.le_refl _) _) (Nat.le_refl _) ?d2 ?_)
  case d1 => omega
  case d2 => simp
  intro A' c' w3 hown hb hsz
  try simp only [Nat.zero_add, List.nil_append] at hown ⊢
  go_wp2
  go_ret2
  exact ⟨_, _, rfl, hown, hb⟩
theorem rseal_any (A : Option Addr) (n c : Nat) (l : List UInt8) (B : Nat) (w : World) (hA : Bs w B A n l) (hB : B ≤ w.heap.size) (hn : n ≤ 70368744177664) :
    Calls Try.prog 31 #[.slice A n c] w fun e w' => ∃ A' c', e = .returned (.slice A' (n + 4) c') ∧
      OwnB w' w.heap.size (.slice A' (n + 4) c') (n + 4) (sealL l) ∧ Below w.heap.size w w' := by
  obtain ⟨s, hs⟩ : ∃ s, s = sumN l := ⟨_, rfl⟩
  have hs32 : s < 4294967296 := by rw [hs]; exact sumN_lt l
  have HS := hide hs
  clear hs
  go_enter Try.func31, Try.ntmps31
  go_wp2_with (at_builtin; refine wp_bytes_own _ rfl (.tmp 3) (.tmp 4) rfl w.heap.size 0 _ [] rfl (own_lit w _ 0 [] _ rfl rfl (by decide) (Nat.le_refl _)) _ A n c l rfl (hA.alloc hB _) ?d1 w.heap.size w ((Below.refl _ _).alloc (Nat.le_refl _) _) (Nat.le_refl _) ?d2 ?_)
  case d1 => omega
  case d2 => simp
  intro A' c' w3 hown hb hsz
  try simp only [Nat.zero_add, List.nil_append] at hown ⊢
  go_wp2_with fail
  refine (rsum_any A n c l B _ (hA.below (hb.mono hB)) (by unfold maxLen; omega)).mono ?_
  rintro e w' ⟨rfl, rfl⟩
  rw [← HS.out]
  go_wp2_with fail
  refine (rform_any s 4 _ (by omega) (by decide)).mono ?_
  rintro e w4 ⟨rfl, hform, hb4⟩
  have hfb : Bs w4 w4.heap.size (some ⟨w3.heap.size, 0, none⟩) 4 (formL s 4) := (hform.own (Nat.zero_le _) (Nat.le_refl _) (by decide) (by rw [bvs_len, formL_len]) (List.take_of_length_le (by rw [bvs_len, formL_len]; omega)) (formL_len s 4)).bs
  have hown4 := hown.later hb4
  have hsz3 := hb.size
  have hsz4 := hb4.size
  have hb14 := hb.trans (hb4.mono hsz3)
  clear hown hform
  go_wp2_with (at_builtin; refine wp_bytes_own _ rfl (.tmp 5) (.tmp 9) rfl w.heap.size n _ l rfl hown4 _ _ 4 4 (formL s 4) rfl hfb ?d1 w.heap.size w hb14 (Nat.le_refl _) ?d2 ?_)
  case d1 => omega
  case d2 => omega
  intro A5 c5 w5 hown5 hb5 hsz5
  go_wp2
  go_ret
  refine ⟨_, _, rfl, ?_, hb5⟩
  unfold sealL; rw [← HS.out]; exact hown5

/-- A slice value that holds these parts. -/
def PartsW (n : Nat) (ls : List (List UInt8)) (v : Value) (w : World) : Prop := ∃ A, v = .slice A n n ∧ Ps w w.heap.size A n ls
theorem PartsW.steady {n : Nat} {ls : List (List UInt8)} {v : Value} {w w' : World} (h : PartsW n ls v w) (hb : Below w.heap.size w w') : PartsW n ls v w' := by
  obtain ⟨A, e, hp⟩ := h
  exact ⟨A, e, hp.later hb⟩
theorem PartsW.one {w : World} {B : Nat} {A : Option Addr} {n c : Nat} {l : List UInt8} (t : TypeId) (h : Bs w B A n l) (hn : n ≤ maxLen) (hB : B ≤ w.heap.size) :
    PartsW 1 [l] (.slice (some ⟨w.heap.size, 0, none⟩) 1 1) (w.alloc (.cells #[.slice A n c] t)) :=
  ⟨_, rfl, (Ps.one t rfl h hn hB).more (by simp)⟩
theorem PartsW.two {w : World} {B : Nat} {A A' : Option Addr} {n c n' c' : Nat} {l l' : List UInt8} (t : TypeId) (h : Bs w B A n l) (h' : Bs w B A' n' l') (hn : n ≤ maxLen) (hn' : n' ≤ maxLen) (hB : B ≤ w.heap.size) :
    PartsW 2 [l, l'] (.slice (some ⟨w.heap.size, 0, none⟩) 2 2) (w.alloc (.cells #[.slice A n c, .slice A' n' c'] t)) :=
  ⟨_, rfl, (Ps.two t rfl h h' hn hn' hB).more (by simp)⟩
theorem parts_sum {n : Nat} {ls : List (List UInt8)} {v : Value} {w : World} {s : Nat} (h : PartsW n ls v w) (hn : n ≤ maxLen) (hs : sumN ls.flatten = s) :
    Calls Try.prog 42 #[v] w fun e w' => ∃ u, e = .returned u ∧ Below w.heap.size w w' ∧ u = .int .u32 (s : Int) := by
  obtain ⟨A, rfl, hp⟩ := h
  refine (sum_any A n n ls _ w hp hn).mono ?_
  rintro e w' ⟨rfl, rfl⟩
  exact ⟨_, rfl, Below.refl _ _, by rw [hs]⟩
end Go.Proofs.Ytkhkihobbfecoaa
