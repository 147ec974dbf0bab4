/-
  Layer 9: the document's examples, awake.
-/
import Derived.Lib.SlBytesConst
import Derived.Test.YtdmihbicpjmgjaaQCmd4
namespace Go.Proofs.Ytdmihbicpjmgjaa
open Go.RowKit Go.Maps
set_option linter.unusedVariables false
set_option linter.unusedSimpArgs false

def nopX : Cx := zX 1 zeroX
def sendX (g : Nat) : Cx := ⟨2, ⟨1, 1, by decide, by decide⟩, 2, 3, some ⟨g, 0, none⟩, 1, 1, [97], zeroX⟩
theorem nop_may : MayC nopX.m := ⟨.inl ⟨rfl, rfl⟩, by decide⟩
theorem send_may (g : Nat) : MayC (sendX g).m := by
  show MayC ⟨2, ⟨1, 1, by decide, by decide⟩, 2, 3, [97], noV⟩
  exact ⟨.inr (.inl ⟨rfl, by decide, ⟨by decide, by decide⟩, ⟨by decide, by decide⟩, rfl⟩), by decide⟩
/-- A literal's row with a mark behind it. -/
theorem bs_mark9 (w : World) (t : TypeId) (fr : Nat × Nat) (l : List UInt8) (cs : Array Value) (n : Nat) (hc : cs = (bvs l).toArray) (hn : l.length = n) : Bs (w.alloc (.cells cs t fr)) (w.heap.size + 1) (some ⟨w.heap.size, 0, none⟩) n l := by
  subst hc
  refine ⟨hn, fun _ => ⟨_, rfl, Nat.lt_succ_self _, fun j x hj => ?_⟩⟩
  have h := World.cell?_alloc_mark w (bvs l).toArray t fr j
  have e : (⟨w.heap.size, 0, none⟩ : Addr).add j = ⟨w.heap.size, j, none⟩ := by
    unfold Addr.add; split
    · subst_vars; rfl
    · simp
  rw [e, h]
  simp [bvs, hj]
theorem add_block (a : Addr) (j : Nat) : (a.add j).block = a.block := by unfold Addr.add; split <;> rfl
theorem zeroX_few : VSmall zeroX := ⟨by decide, by decide, by decide, fun y hy => by simp [zeroX] at hy⟩
theorem nop_form : [] ++ formC nopX.m = [1] := by decide
theorem send_form (g : Nat) : [1] ++ formC (sendX g).m = [1, 2, 1, 1, 2, 3, 1, 97] := by
  show [1] ++ formC ⟨2, ⟨1, 1, by decide, by decide⟩, 2, 3, [97], noV⟩ = _
  decide
set_option maxRecDepth 100000 in
theorem awake9_any (w : World) :
    Calls Try.prog 7 #[] w fun e w' => e = .returned (.bool true) ∧ Below w.heap.size w w' := by
  have h1 := WrAt.new w w.heap.size (Nat.le_refl _)
  have hb1 : Below w.heap.size w (w.alloc (.cells #[.slice none 0 0] 38)) := (Below.refl _ _).alloc (Nat.le_refl _) _
  have kc := fun (w : World) (C : Array Value) (n c : Nat) => Lib.run_convert_bytes_const (P := Try.prog) w 27 5 C n c Try.underlying27 Try.underlying5
  go_enter Try.func7, Try.ntmps7
  go_wp2_with fail
  have hs1 : (w.alloc (.cells #[.slice none 0 0] 38)).heap.size = w.heap.size + 1 := by simp
  generalize (w.alloc (.cells #[.slice none 0 0] 38)) = w1 at h1 hb1 hs1 ⊢
  have c1 := cput_any nopX w.heap.size w.heap.size w.heap.size none [] w1 h1 hb1.size (by decide) (zX_in (by decide) (by decide) (zeroX_at _ _)) (Nat.le_refl _) ⟨by decide, zeroX_few⟩ nop_may
  rw [nop_form] at c1
  refine c1.mono ?_
  rintro e w2 ⟨rfl, mg2, h2, ht2, hm2⟩
  have hb2 := hb1.trans (h1.turned ht2 hb1.size)
  have hs2 : w.heap.size + 1 ≤ w2.heap.size := by rw [← hs1]; exact ht2.size
  have hmg : ∀ g, mg2 = some g → g < w2.heap.size := fun g hg => (h2.mlt g hg).2.1
  have h3 := h2.alloc (.cells #[.int .u8 97] 5 (1, 2))
  have hb3 := hb2.alloc hb2.size (.cells #[.int .u8 97] 5 (1, 2))
  have hd3 : Bs (w2.alloc (.cells #[.int .u8 97] 5 (1, 2))) (w2.heap.size + 1) (some ⟨w2.heap.size, 0, none⟩) 1 [97] := by
    exact bs_mark9 w2 _ _ [97] #[.int .u8 97] 1 (by rfl) rfl
  have hs3 : (w2.alloc (.cells #[.int .u8 97] 5 (1, 2))).heap.size = w2.heap.size + 1 := by simp
  go_wp2_with fail
  generalize (w2.alloc (.cells #[.int .u8 97] 5 (1, 2))) = w3 at *
  have hfar : ∀ W, Turn w3 W w.heap.size mg2 → Bs W (w2.heap.size + 1) (some ⟨w2.heap.size, 0, none⟩) 1 [97] := fun W hT => by
    refine ⟨rfl, fun _ => ?_⟩
    obtain ⟨ad, e, hlt, hc⟩ := hd3.2 (by decide)
    refine ⟨ad, e, hlt, fun j x hx => ?_⟩
    injection e with e
    subst e
    exact hT.cell (hc j x hx) (by rw [add_block]; show w2.heap.size ≠ _; omega) (fun e => by rw [add_block] at e; exact absurd (hmg _ e.symm) (Nat.lt_irrefl _))
  have c2 := cput_far (sendX w2.heap.size) w.heap.size w.heap.size (w2.heap.size + 1) w.heap.size mg2 [1] w3 h3 hb3.size (by decide) ⟨by show (-9223372036854775808 : Int) ≤ 2; decide, by show (2 : Int) ≤ 9223372036854775807; decide, by show 2 < 18446744073709551616; decide, by show 3 < 18446744073709551616; decide, hd3, Nat.le_refl _, by show 1 ≤ maxLen; decide, zeroX_at _ _⟩ (by omega) hfar (zeroX_at _ _) (Nat.le_refl _) ⟨by show 1 ≤ 400; decide, zeroX_few⟩ (send_may _)
  rw [send_form] at c2
  clear c1
  refine c2.mono ?_
  rintro e w4 ⟨rfl, mg4, h4, ht4, hm4⟩
  have hb4 := hb3.trans (h3.turned ht4 hb3.size)
  clear c2 hfar hd3 hmg
  go_wp2_with fail
  refine (wdone_any w.heap.size _ mg4 [1, 2, 1, 1, 2, 3, 1, 97] w4 h4 (by decide)).mono ?_
  rintro e w5 ⟨A5, c5, rfl, hO5, hb5⟩
  have hb6 := (hb4.trans (hb5.mono hb4.size))
  have hb7 := hb6.alloc hb6.size (.cells #[.int .u8 1, .int .u8 2, .int .u8 1, .int .u8 1, .int .u8 2, .int .u8 3, .int .u8 1, .int .u8 97] 5)
  clear hb1 hb2 hb3 hb4 hb5 h1 h2 h3 h4 ht2 ht4 hm2 hm4 hs1 hs2 hs3
  go_wp2_with fail
  refine (same_eq _ _ _ _ _ _ [1, 2, 1, 1, 2, 3, 1, 97] [1, 2, 1, 1, 2, 3, 1, 97] _ _ _ (hO5.alloc _).bs (own_lit w5 0 8 [1, 2, 1, 1, 2, 3, 1, 97] _ (by rfl) rfl (by decide) (Nat.zero_le _)).bs (by decide) rfl).mono ?_
  rintro e w6 ⟨rfl, hd⟩
  have hbz := hb7.trans (drawn_below hd)
  clear hd hO5 hb6 hb7
  go_wp2
  go_ret
  exact ⟨rfl, hbz⟩
end Go.Proofs.Ytdmihbicpjmgjaa
