import Derived.Deep.RegionHeld3
import Derived.IntWalk
import Derived.Test.YtjmkecaljkcoiaaGreatDoorQRd3
namespace Go.Proofs.YtjmkecaljkcoiaaGreatDoor
open Go.RowKit
set_option linter.unusedVariables false
set_option linter.unusedSimpArgs false
theorem rdnum_ok (b : Nat) (l : List UInt8) (most : Nat) (w : World) (h : RdAt w b l 0) (hm : most < 18446744073709551616) (hE : numE l most = 0) :
    Calls Tryz.prog 103 #[.pointer (some ⟨b, 0, none⟩), .int .u64 most] w (ReadsP w b (.int .u64 ((getF l).1 : Nat)) (l.drop (getF l).2.1) 0) :=
  (rdnum_any b l most w h hm).mono fun e w' hw => by
    rcases hw with ⟨_, v, h1, rfl, h3, h4⟩ | ⟨h1, _⟩
    · exact ⟨h1, h3, h4⟩
    · exact absurd hE h1
theorem rdnum_bad (b : Nat) (l : List UInt8) (most : Nat) (w : World) (h : RdAt w b l 0) (hm : most < 18446744073709551616) (hE : numE l most ≠ 0) :
    Calls Tryz.prog 103 #[.pointer (some ⟨b, 0, none⟩), .int .u64 most] w (ReadsP w b (.int .u64 0) l (numE l most)) :=
  (rdnum_any b l most w h hm).mono fun e w' hw => by
    rcases hw with ⟨h1, _⟩ | ⟨_, h1, h2, h3⟩
    · exact absurd h1 hE
    · exact ⟨h1, h2, h3⟩
theorem rdpid_ok (b : Nat) (l : List UInt8) (w : World) (h : RdAt w b l 0) (hE : (pidG l).2.2.2 = 0) :
    Calls Tryz.prog 104 #[.pointer (some ⟨b, 0, none⟩)] w (ReadsP w b (.agg #[.int .u16 ((pidG l).1 : Nat), .int .u32 ((pidG l).2.1 : Nat)]) (l.drop (pidG l).2.2.1) 0) :=
  (rdpid_any b l w h).mono fun e w' hw => by
    rcases hw with ⟨_, v, h1, rfl, h3, h4⟩ | ⟨h1, _⟩
    · exact ⟨h1, h3, h4⟩
    · exact absurd hE h1
theorem rdpid_bad (b : Nat) (l : List UInt8) (w : World) (h : RdAt w b l 0) (hE : (pidG l).2.2.2 ≠ 0) :
    Calls Tryz.prog 104 #[.pointer (some ⟨b, 0, none⟩)] w (ReadsP w b (.agg #[.int .u16 0, .int .u32 0]) l (pidG l).2.2.2) :=
  (rdpid_any b l w h).mono fun e w' hw => by
    rcases hw with ⟨h1, _⟩ | ⟨_, h1, h2, h3⟩
    · exact absurd h1 hE
    · exact ⟨h1, h2, h3⟩
theorem numE_le {l : List UInt8} {most : Nat} (h : numE l most = 0) : (getF l).1 ≤ most := by
  unfold numE at h
  split at h
  · split at h
    · cases h
    · omega
  · rename_i h1
    exact absurd h h1
def balE (l : List UInt8) : Nat := if numE l 4294967295 = 0 then (pidG (l.drop (getF l).2.1)).2.2.2 else numE l 4294967295
def Bal1P (w : World) (b : Nat) (l : List UInt8) : Ending → World → Prop := CloP w b (fun v _ => ∃ (r i k : Nat), v = .agg #[.int .u32 r, .int .u16 i, .int .u32 k]) (fun v _ => v = .agg #[.int .u32 (((getF l).1 : Nat) : Int), .int .u16 (((pidG (l.drop (getF l).2.1)).1 : Nat) : Int), .int .u32 (((pidG (l.drop (getF l).2.1)).2.1 : Nat) : Int)]) ((l.drop (getF l).2.1).drop (pidG (l.drop (getF l).2.1)).2.2.1) (balE l)
set_option maxRecDepth 100000 in
theorem bal1_any (b p : Nat) (l : List UInt8) (w : World) (h : RdAt w b l 0) (hp : w.cell? ⟨p, 0, none⟩ = some (.pointer (some ⟨b, 0, none⟩))) (hpb : p ≠ b) :
    Calls Tryz.prog 166 #[.pointer (some ⟨p, 0, none⟩)] w (Bal1P w b l) := by
  have hbd := getF_bds l
  have hlt := h.lt
  have hplt := World.block_lt_of_cell? _ _ hp
  simp only at hplt
  have hb1 : Below w.heap.size w (w.alloc (.cells #[.int .u32 0, .int .u16 0, .int .u32 0] 46)) := (Below.refl _ _).alloc (Nat.le_refl _) _
  have h1 := h.later hb1
  have hp1 := (hb1.cell hplt).trans hp
  obtain ⟨w1, hw1⟩ : ∃ w1, w1 = (w.alloc (.cells #[.int .u32 0, .int .u16 0, .int .u32 0] 46)) := ⟨_, rfl⟩
  have b1 : Blk w1 w.heap.size #[.int .u32 0, .int .u16 0, .int .u32 0] 46 := by rw [hw1]; exact heap_alloc_new w _
  have hp1e := hp1
  rw [← hw1] at hb1 h1 hp1
  have hle := hb1.size
  have n1 := b1.lt
  clear h hp
  by_cases hE : numE l 4294967295 = 0
  · have hB : balE l = (pidG (l.drop (getF l).2.1)).2.2.2 := by unfold balE; rw [if_pos hE]
    have hnl := numE_le hE
    have cn := rdnum_ok b l 4294967295 w1 h1 (by decide) hE
    have cok := fun W h => rdpid_ok b (l.drop (getF l).2.1) W h
    have cbad := fun W h => rdpid_bad b (l.drop (getF l).2.1) W h
    have hZ : ∀ (r i k : Nat) (l' : List UInt8) (e : Ending) (w' : World), r = (getF l).1 → i = (pidG (l.drop (getF l).2.1)).1 → k = (pidG (l.drop (getF l).2.1)).2.1 → e = .returned (.agg #[.int .u32 r, .int .u16 i, .int .u32 k]) → RdAt w' b l' (pidG (l.drop (getF l).2.1)).2.2.2 → Turn w w' b none → l' = (l.drop (getF l).2.1).drop (pidG (l.drop (getF l).2.1)).2.2.1 → Bal1P w b l e w' := by
      intro r i k l' e w' e1 e2 e3 e4 e5 e6 e7
      subst e1 e2 e3
      refine ⟨_, l', e4, ⟨_, _, _, rfl⟩, by rw [hB]; exact e5, e6, fun _ => ⟨e7, rfl⟩⟩
    have hZ2 : ∀ (r i k : Nat) (l' : List UInt8) (e : Ending) (w' : World), (pidG (l.drop (getF l).2.1)).2.2.2 ≠ 0 → e = .returned (.agg #[.int .u32 r, .int .u16 i, .int .u32 k]) → RdAt w' b l' (pidG (l.drop (getF l).2.1)).2.2.2 → Turn w w' b none → Bal1P w b l e w' := by
      intro r i k l' e w' e0 e4 e5 e6
      refine ⟨_, l', e4, ⟨_, _, _, rfl⟩, by rw [hB]; exact e5, e6, fun e => absurd (hB.symm.trans e) e0⟩
    have HZ := Lib.hid hZ
    have HZ2 := Lib.hid hZ2
    clear hZ hZ2 hB hE
    generalize hn9 : (getF l).1 = n9 at *
    generalize hm9 : l.drop (getF l).2.1 = m9 at *
    have wn : IntKind.u32.wrap (n9 : Int) = (n9 : Int) := by rw [IntKind.wrap_u32]; omega
    have hnn : n9 ≤ 4294967295 := hnl
    clear hn9 hm9 hbd
    by_cases hP : (pidG m9).2.2.2 = 0
    · have c2 := fun W h => cok W h hP
      clear cok cbad
      obtain ⟨q, hq⟩ : ∃ q, pidG m9 = q := ⟨_, rfl⟩
      rw [hq] at c2 HZ HZ2 hP
      rw [hP] at HZ HZ2
      have hqi := (pidG_bds m9).1
      have hqk := (pidG_bds m9).2.1
      rw [hq] at hqi hqk
      obtain ⟨i9, k9, u9, t9⟩ := q
      simp only at c2 HZ hqi hqk hP
      clear hq hP HZ2
      go_enter Tryz.func166, Tryz.ntmps166
      go_wp2_with fail
      rw [← hw1]
      clear hw1 hp1e
      refine cn.mono ?_
      rintro e w2 ⟨rfl, h2, ht2⟩
      have hp2 := ht2.cell hp1 (by simpa using hpb) (by simp)
      have b2 := b1.turn ht2 (by omega) (by simp)
      have htz := Turn.ahead hb1 ht2
      clear cn h1 hp1 b1 ht2 hb1
      go_wp2_with fail
      refine (c2 w2 h2).mono ?_
      rintro e w3 ⟨rfl, h3, ht3⟩
      have k1 := b2.turn ht3 (by omega) (by simp)
      have hty := htz.trans ht3 (Mov.refl _ _)
      have x4 := (((k1.set_ 0 (.int .u32 n9)).set_ 1 (.int .u16 i9)).set_ 2 (.int .u32 k9))
      have hx := (((h3.other (p := ⟨w.heap.size, 0, none⟩) (by simp; omega) (.int .u32 n9)).other (p := ⟨w.heap.size, 1, none⟩) (by simp; omega) (.int .u16 i9)).other (p := ⟨w.heap.size, 2, none⟩) (by simp; omega) (.int .u32 k9))
      have htx := (((hty.setNew (p := ⟨w.heap.size, 0, none⟩) (by simp) (.int .u32 n9)).setNew (p := ⟨w.heap.size, 1, none⟩) (by simp) (.int .u16 i9)).setNew (p := ⟨w.heap.size, 2, none⟩) (by simp) (.int .u32 k9))
      have gc0 := k1.cell 0
      have gz0 := k1.frozen 0
      have gc1 := k1.cell 1
      have gz1 := k1.frozen 1
      have gc2 := k1.cell 2
      have gz2 := k1.frozen 2
      simp only [List.getElem?_toArray, List.getElem?_cons_zero, List.getElem?_cons_succ] at gc0 gc1 gc2
      have HW := Lib.hid (HZ.out n9 i9 k9 (m9.drop u9) (.returned (.agg #[.int .u32 n9, .int .u16 i9, .int .u32 k9])) (((w3.setCell ⟨w.heap.size, 0, none⟩ (.int .u32 n9)).setCell ⟨w.heap.size, 1, none⟩ (.int .u16 i9)).setCell ⟨w.heap.size, 2, none⟩ (.int .u32 k9)) rfl rfl rfl rfl hx htx rfl)
      clear hx htx h3 ht3 k1 b2 htz hty h2 hp2
      go_wp2
      generalize (((w3.setCell ⟨w.heap.size, 0, none⟩ (.int .u32 n9)).setCell ⟨w.heap.size, 1, none⟩ (.int .u16 i9)).setCell ⟨w.heap.size, 2, none⟩ (.int .u32 k9)) = w5 at x4 HW ⊢
      have c40 : w5.cell? ⟨w.heap.size, 0, none⟩ = some (.int .u32 n9) := x4.cell 0
      have c41 : w5.cell? ⟨w.heap.size, 1, none⟩ = some (.int .u16 i9) := x4.cell 1
      have c42 : w5.cell? ⟨w.heap.size, 2, none⟩ = some (.int .u32 k9) := x4.cell 2
      exact bodyPost_ret (v := .agg #[.int .u32 n9, .int .u16 i9, .int .u32 k9]) (by simp [results, Tryz.results166, go_sem, c40, c41, c42]) rfl HW.out
    · have c2 := fun W h => cbad W h hP
      clear cok cbad
      obtain ⟨q, hq⟩ : ∃ q, pidG m9 = q := ⟨_, rfl⟩
      rw [hq] at c2 HZ HZ2 hP
      obtain ⟨i9, k9, u9, t9⟩ := q
      simp only at c2 HZ2 hP
      clear hq HZ
      go_enter Tryz.func166, Tryz.ntmps166
      go_wp2_with fail
      rw [← hw1]
      clear hw1 hp1e
      refine cn.mono ?_
      rintro e w2 ⟨rfl, h2, ht2⟩
      have hp2 := ht2.cell hp1 (by simpa using hpb) (by simp)
      have b2 := b1.turn ht2 (by omega) (by simp)
      have htz := Turn.ahead hb1 ht2
      clear cn h1 hp1 b1 ht2 hb1
      go_wp2_with fail
      refine (c2 w2 h2).mono ?_
      rintro e w3 ⟨rfl, h3, ht3⟩
      have k1 := b2.turn ht3 (by omega) (by simp)
      have hty := htz.trans ht3 (Mov.refl _ _)
      have x4 := (((k1.set_ 0 (.int .u32 n9)).set_ 1 (.int .u16 (0 : Int))).set_ 2 (.int .u32 (0 : Int)))
      have hx := (((h3.other (p := ⟨w.heap.size, 0, none⟩) (by simp; omega) (.int .u32 n9)).other (p := ⟨w.heap.size, 1, none⟩) (by simp; omega) (.int .u16 (0 : Int))).other (p := ⟨w.heap.size, 2, none⟩) (by simp; omega) (.int .u32 (0 : Int)))
      have htx := (((hty.setNew (p := ⟨w.heap.size, 0, none⟩) (by simp) (.int .u32 n9)).setNew (p := ⟨w.heap.size, 1, none⟩) (by simp) (.int .u16 (0 : Int))).setNew (p := ⟨w.heap.size, 2, none⟩) (by simp) (.int .u32 (0 : Int)))
      have gc0 := k1.cell 0
      have gz0 := k1.frozen 0
      have gc1 := k1.cell 1
      have gz1 := k1.frozen 1
      have gc2 := k1.cell 2
      have gz2 := k1.frozen 2
      simp only [List.getElem?_toArray, List.getElem?_cons_zero, List.getElem?_cons_succ] at gc0 gc1 gc2
      have HW := Lib.hid (HZ2.out n9 0 0 m9 (.returned (.agg #[.int .u32 n9, .int .u16 (0 : Int), .int .u32 (0 : Int)])) (((w3.setCell ⟨w.heap.size, 0, none⟩ (.int .u32 n9)).setCell ⟨w.heap.size, 1, none⟩ (.int .u16 (0 : Int))).setCell ⟨w.heap.size, 2, none⟩ (.int .u32 (0 : Int))) hP rfl hx htx)
      clear hx htx h3 ht3 k1 b2 htz hty h2 hp2
      go_wp2
      generalize (((w3.setCell ⟨w.heap.size, 0, none⟩ (.int .u32 n9)).setCell ⟨w.heap.size, 1, none⟩ (.int .u16 (0 : Int))).setCell ⟨w.heap.size, 2, none⟩ (.int .u32 (0 : Int))) = w5 at x4 HW ⊢
      have c40 : w5.cell? ⟨w.heap.size, 0, none⟩ = some (.int .u32 n9) := x4.cell 0
      have c41 : w5.cell? ⟨w.heap.size, 1, none⟩ = some (.int .u16 (0 : Int)) := x4.cell 1
      have c42 : w5.cell? ⟨w.heap.size, 2, none⟩ = some (.int .u32 (0 : Int)) := x4.cell 2
      exact bodyPost_ret (v := .agg #[.int .u32 n9, .int .u16 (0 : Int), .int .u32 (0 : Int)]) (by simp [results, Tryz.results166, go_sem, c40, c41, c42]) rfl HW.out
  · have hB : balE l = numE l 4294967295 := by unfold balE; rw [if_neg hE]
    have cn := rdnum_bad b l 4294967295 w1 h1 (by decide) hE
    have cst := fun W h => rdpid_stop b (numE l 4294967295) l W h hE
    have hZ2 : ∀ (r i k : Nat) (l' : List UInt8) (e : Ending) (w' : World), e = .returned (.agg #[.int .u32 r, .int .u16 i, .int .u32 k]) → RdAt w' b l' (numE l 4294967295) → Turn w w' b none → Bal1P w b l e w' := by
      intro r i k l' e w' e4 e5 e6
      refine ⟨_, l', e4, ⟨_, _, _, rfl⟩, by rw [hB]; exact e5, e6, fun e => absurd (hB.symm.trans e) hE⟩
    have HZ2 := Lib.hid hZ2
    clear hZ2 hB hE hbd
    generalize numE l 4294967295 = t9 at *
    go_enter Tryz.func166, Tryz.ntmps166
    go_wp2_with fail
    rw [← hw1]
    clear hw1 hp1e
    refine cn.mono ?_
    rintro e w2 ⟨rfl, h2, ht2⟩
    have hp2 := ht2.cell hp1 (by simpa using hpb) (by simp)
    have b2 := b1.turn ht2 (by omega) (by simp)
    have htz := Turn.ahead hb1 ht2
    clear cn h1 hp1 b1 ht2 hb1
    go_wp2_with fail
    refine (cst w2 h2).mono ?_
    rintro e w3 ⟨rfl, h3, ht3⟩
    have k1 := b2.turn ht3 (by omega) (by simp)
    have hty := htz.trans ht3 (Mov.refl _ _)
    have x4 := (((k1.set_ 0 (.int .u32 (0 : Int))).set_ 1 (.int .u16 (0 : Int))).set_ 2 (.int .u32 (0 : Int)))
    have hx := (((h3.other (p := ⟨w.heap.size, 0, none⟩) (by simp; omega) (.int .u32 (0 : Int))).other (p := ⟨w.heap.size, 1, none⟩) (by simp; omega) (.int .u16 (0 : Int))).other (p := ⟨w.heap.size, 2, none⟩) (by simp; omega) (.int .u32 (0 : Int)))
    have htx := (((hty.setNew (p := ⟨w.heap.size, 0, none⟩) (by simp) (.int .u32 (0 : Int))).setNew (p := ⟨w.heap.size, 1, none⟩) (by simp) (.int .u16 (0 : Int))).setNew (p := ⟨w.heap.size, 2, none⟩) (by simp) (.int .u32 (0 : Int)))
    have gc0 := k1.cell 0
    have gz0 := k1.frozen 0
    have gc1 := k1.cell 1
    have gz1 := k1.frozen 1
    have gc2 := k1.cell 2
    have gz2 := k1.frozen 2
    simp only [List.getElem?_toArray, List.getElem?_cons_zero, List.getElem?_cons_succ] at gc0 gc1 gc2
    have HW := Lib.hid (HZ2.out 0 0 0 l (.returned (.agg #[.int .u32 (0 : Int), .int .u16 (0 : Int), .int .u32 (0 : Int)])) (((w3.setCell ⟨w.heap.size, 0, none⟩ (.int .u32 (0 : Int))).setCell ⟨w.heap.size, 1, none⟩ (.int .u16 (0 : Int))).setCell ⟨w.heap.size, 2, none⟩ (.int .u32 (0 : Int))) rfl hx htx)
    clear hx htx h3 ht3 k1 b2 htz hty h2 hp2
    go_wp2
    generalize (((w3.setCell ⟨w.heap.size, 0, none⟩ (.int .u32 (0 : Int))).setCell ⟨w.heap.size, 1, none⟩ (.int .u16 (0 : Int))).setCell ⟨w.heap.size, 2, none⟩ (.int .u32 (0 : Int))) = w5 at x4 HW ⊢
    have c40 : w5.cell? ⟨w.heap.size, 0, none⟩ = some (.int .u32 (0 : Int)) := x4.cell 0
    have c41 : w5.cell? ⟨w.heap.size, 1, none⟩ = some (.int .u16 (0 : Int)) := x4.cell 1
    have c42 : w5.cell? ⟨w.heap.size, 2, none⟩ = some (.int .u32 (0 : Int)) := x4.cell 2
    exact bodyPost_ret (v := .agg #[.int .u32 (0 : Int), .int .u16 (0 : Int), .int .u32 (0 : Int)]) (by simp [results, Tryz.results166, go_sem, c40, c41, c42]) rfl HW.out
set_option maxRecDepth 100000 in
theorem rdballot_any (b : Nat) (l : List UInt8)  (w : World) (h : RdAt w b l 0)  :
    Calls Tryz.prog 105 #[.pointer (some ⟨b, 0, none⟩)] w (WholeG w b (.agg #[.int .u32 0, .int .u16 0, .int .u32 0]) (fun v _ => v = .agg #[.int .u32 (((getF l).1 : Nat) : Int), .int .u16 (((pidG (l.drop (getF l).2.1)).1 : Nat) : Int), .int .u32 (((pidG (l.drop (getF l).2.1)).2.1 : Nat) : Int)]) l ((l.drop (getF l).2.1).drop (pidG (l.drop (getF l).2.1)).2.2.1) (balE l)) := by
  have hmf : ∀ (fn : Fn) (first cap : Array Value) (w : World), (Instr.makeFunc fn first cap).run Tryz.prog w = .ok (.func fn first cap) w := fun _ _ _ _ => rfl
  have hb1 : Below w.heap.size w ((w.alloc (.cells #[.pointer (some ⟨b, 0, none⟩)] 91)).alloc (.cells #[.int .u32 0, .int .u16 0, .int .u32 0] 46)) := ((Below.refl _ _).alloc (Nat.le_refl _) _).alloc (by simp) _
  have hlt := h.lt
  obtain ⟨w1, hw1⟩ : ∃ w1, w1 = ((w.alloc (.cells #[.pointer (some ⟨b, 0, none⟩)] 91)).alloc (.cells #[.int .u32 0, .int .u16 0, .int .u32 0] 46)) := ⟨_, rfl⟩
  have hs1 : w1.heap.size = w.heap.size + 2 := by rw [hw1]; simp
  have hp1 : w1.cell? ⟨w.heap.size, 0, none⟩ = some (.pointer (some ⟨b, 0, none⟩)) := by rw [hw1]; go_simp
  rw [← hw1] at hb1
  have h1 := h.later hb1
  have hle := hb1.size
  have b4 : Blk w1 (w.heap.size + 1) #[.int .u32 0, .int .u16 0, .int .u32 0] 46 := by
    rw [hw1]
    have := heap_alloc_new (w.alloc (.cells #[.pointer (some ⟨b, 0, none⟩)] 91)) (.cells #[.int .u32 0, .int .u16 0, .int .u32 0] 46)
    simpa [Blk] using this
  have cw := ballot_whole b w.heap.size l ((l.drop (getF l).2.1).drop (pidG (l.drop (getF l).2.1)).2.2.1) (balE l) (fun v _ => v = .agg #[.int .u32 (((getF l).1 : Nat) : Int), .int .u16 (((pidG (l.drop (getF l).2.1)).1 : Nat) : Int), .int .u32 (((pidG (l.drop (getF l).2.1)).2.1 : Nat) : Int)]) w1 h1 (fun _ _ _ _ _ h => h) (fun W hb hs hR => bal1_any b w.heap.size l W hR ((hb.cell (World.block_lt_of_cell? _ _ hp1)).trans hp1) (by omega))
  clear h1 h
  generalize (pidG (l.drop (getF l).2.1)).1 = i9 at *
  generalize (pidG (l.drop (getF l).2.1)).2.1 = k9 at *
  generalize (l.drop (getF l).2.1).drop (pidG (l.drop (getF l).2.1)).2.2.1 = lr9 at *
  generalize balE l = t9 at *
  generalize (getF l).1 = r9 at *
  have hH := hide hs1
  clear hs1
  go_enter Tryz.func105, Tryz.ntmps105
  go_wp2_with fail
  rw [← hw1]
  clear hw1
  refine cw.mono ?_
  rintro e w2 (⟨ht, v, rfl, hg, hR, hT⟩ | ⟨ht, rfl, hR, hT⟩)
  · subst hg
    have k4 := b4.turn hT (by omega) (by simp)
    have x4 := (((k4.set_ 0 (.int .u32 r9)).set_ 1 (.int .u16 i9)).set_ 2 (.int .u32 k9))
    have hx := (((hR.other (p := ⟨w.heap.size + 1, 0, none⟩) (by simp; omega) (.int .u32 r9)).other (p := ⟨w.heap.size + 1, 1, none⟩) (by simp; omega) (.int .u16 i9)).other (p := ⟨w.heap.size + 1, 2, none⟩) (by simp; omega) (.int .u32 k9))
    have htx := ((((Turn.ahead hb1 hT).setNew (p := ⟨w.heap.size + 1, 0, none⟩) (by simp) (.int .u32 r9)).setNew (p := ⟨w.heap.size + 1, 1, none⟩) (by simp) (.int .u16 i9)).setNew (p := ⟨w.heap.size + 1, 2, none⟩) (by simp) (.int .u32 k9))
    have gc0 := k4.cell 0
    have gz0 := k4.frozen 0
    have gc1 := k4.cell 1
    have gz1 := k4.frozen 1
    have gc2 := k4.cell 2
    have gz2 := k4.frozen 2
    simp only [List.getElem?_toArray, List.getElem?_cons_zero, List.getElem?_cons_succ] at gc0 gc1 gc2
    have hz : WholeG w b (.agg #[.int .u32 0, .int .u16 0, .int .u32 0]) (fun v _ => v = .agg #[.int .u32 r9, .int .u16 i9, .int .u32 k9]) l (lr9) (t9) (.returned (.agg #[.int .u32 r9, .int .u16 i9, .int .u32 k9])) (((w2.setCell ⟨w.heap.size + 1, 0, none⟩ (.int .u32 r9)).setCell ⟨w.heap.size + 1, 1, none⟩ (.int .u16 i9)).setCell ⟨w.heap.size + 1, 2, none⟩ (.int .u32 k9)) := .inl ⟨ht, _, rfl, rfl, hx, htx⟩
    have HZ := Lib.hid hz
    clear hz hx htx hR hT k4 b4 ht cw
    go_wp2
    generalize (((w2.setCell ⟨w.heap.size + 1, 0, none⟩ (.int .u32 r9)).setCell ⟨w.heap.size + 1, 1, none⟩ (.int .u16 i9)).setCell ⟨w.heap.size + 1, 2, none⟩ (.int .u32 k9)) = w3 at x4 HZ ⊢
    have c40 : w3.cell? ⟨w.heap.size + 1, 0, none⟩ = some (.int .u32 r9) := x4.cell 0
    have c41 : w3.cell? ⟨w.heap.size + 1, 1, none⟩ = some (.int .u16 i9) := x4.cell 1
    have c42 : w3.cell? ⟨w.heap.size + 1, 2, none⟩ = some (.int .u32 k9) := x4.cell 2
    exact bodyPost_ret (v := .agg #[.int .u32 r9, .int .u16 i9, .int .u32 k9]) (by simp [results, Tryz.results105, go_sem, c40, c41, c42]) rfl HZ.out
  · have k4 := b4.turn hT (by omega) (by simp)
    have x4 := (((k4.set_ 0 (.int .u32 0)).set_ 1 (.int .u16 0)).set_ 2 (.int .u32 0))
    have hx := (((hR.other (p := ⟨w.heap.size + 1, 0, none⟩) (by simp; omega) (.int .u32 0)).other (p := ⟨w.heap.size + 1, 1, none⟩) (by simp; omega) (.int .u16 0)).other (p := ⟨w.heap.size + 1, 2, none⟩) (by simp; omega) (.int .u32 0))
    have htx := ((((Turn.ahead hb1 hT).setNew (p := ⟨w.heap.size + 1, 0, none⟩) (by simp) (.int .u32 0)).setNew (p := ⟨w.heap.size + 1, 1, none⟩) (by simp) (.int .u16 0)).setNew (p := ⟨w.heap.size + 1, 2, none⟩) (by simp) (.int .u32 0))
    have gc0 := k4.cell 0
    have gz0 := k4.frozen 0
    have gc1 := k4.cell 1
    have gz1 := k4.frozen 1
    have gc2 := k4.cell 2
    have gz2 := k4.frozen 2
    simp only [List.getElem?_toArray, List.getElem?_cons_zero, List.getElem?_cons_succ] at gc0 gc1 gc2
    have hz : WholeG w b (.agg #[.int .u32 0, .int .u16 0, .int .u32 0]) (fun v _ => v = .agg #[.int .u32 r9, .int .u16 i9, .int .u32 k9]) l (lr9) (t9) (.returned (.agg #[.int .u32 0, .int .u16 0, .int .u32 0])) (((w2.setCell ⟨w.heap.size + 1, 0, none⟩ (.int .u32 0)).setCell ⟨w.heap.size + 1, 1, none⟩ (.int .u16 0)).setCell ⟨w.heap.size + 1, 2, none⟩ (.int .u32 0)) := .inr ⟨ht, rfl, hx, htx⟩
    have HZ := Lib.hid hz
    clear hz hx htx hR hT k4 b4 ht cw
    go_wp2
    generalize (((w2.setCell ⟨w.heap.size + 1, 0, none⟩ (.int .u32 0)).setCell ⟨w.heap.size + 1, 1, none⟩ (.int .u16 0)).setCell ⟨w.heap.size + 1, 2, none⟩ (.int .u32 0)) = w3 at x4 HZ ⊢
    have c40 : w3.cell? ⟨w.heap.size + 1, 0, none⟩ = some (.int .u32 0) := x4.cell 0
    have c41 : w3.cell? ⟨w.heap.size + 1, 1, none⟩ = some (.int .u16 0) := x4.cell 1
    have c42 : w3.cell? ⟨w.heap.size + 1, 2, none⟩ = some (.int .u32 0) := x4.cell 2
    exact bodyPost_ret (v := .agg #[.int .u32 0, .int .u16 0, .int .u32 0]) (by simp [results, Tryz.results105, go_sem, c40, c41, c42]) rfl HZ.out
set_option maxRecDepth 100000 in
theorem rdballot_stop (b t : Nat) (l : List UInt8)  (w : World) (h : RdAt w b l t) (ht : t ≠ 0) :
    Calls Tryz.prog 105 #[.pointer (some ⟨b, 0, none⟩)] w (ReadsP w b (.agg #[.int .u32 0, .int .u16 0, .int .u32 0]) l t) := by
  have hmf : ∀ (fn : Fn) (first cap : Array Value) (w : World), (Instr.makeFunc fn first cap).run Tryz.prog w = .ok (.func fn first cap) w := fun _ _ _ _ => rfl
  have hb1 : Below w.heap.size w ((w.alloc (.cells #[.pointer (some ⟨b, 0, none⟩)] 91)).alloc (.cells #[.int .u32 0, .int .u16 0, .int .u32 0] 46)) := ((Below.refl _ _).alloc (Nat.le_refl _) _).alloc (by simp) _
  have cw := fun f W (h : RdAt W b l t) => ballot_stop f b t l W h ht
  obtain ⟨w1, hw1⟩ : ∃ w1, w1 = ((w.alloc (.cells #[.pointer (some ⟨b, 0, none⟩)] 91)).alloc (.cells #[.int .u32 0, .int .u16 0, .int .u32 0] 46)) := ⟨_, rfl⟩
  have b4 : Blk w1 (w.heap.size + 1) #[.int .u32 0, .int .u16 0, .int .u32 0] 46 := by
    rw [hw1]
    have := heap_alloc_new (w.alloc (.cells #[.pointer (some ⟨b, 0, none⟩)] 91)) (.cells #[.int .u32 0, .int .u16 0, .int .u32 0] 46)
    simpa [Blk] using this
  have hlt := h.lt
  rw [← hw1] at hb1
  have h1 := h.later hb1
  clear h
  have hle := hb1.size
  go_enter Tryz.func105, Tryz.ntmps105
  go_wp2_with fail
  rw [← hw1]
  clear hw1
  refine (cw _ w1 h1).mono ?_
  rintro e w2 ⟨rfl, hR, hT⟩
  clear cw
  have k4 := b4.turn hT (by omega) (by simp)
  have x4 := (((k4.set_ 0 (.int .u32 0)).set_ 1 (.int .u16 0)).set_ 2 (.int .u32 0))
  have htx := ((((Turn.ahead hb1 hT).setNew (p := ⟨w.heap.size + 1, 0, none⟩) (by simp) (.int .u32 0)).setNew (p := ⟨w.heap.size + 1, 1, none⟩) (by simp) (.int .u16 0)).setNew (p := ⟨w.heap.size + 1, 2, none⟩) (by simp) (.int .u32 0))
  have hx := (((hR.other (p := ⟨w.heap.size + 1, 0, none⟩) (by simp; omega) (.int .u32 0)).other (p := ⟨w.heap.size + 1, 1, none⟩) (by simp; omega) (.int .u16 0)).other (p := ⟨w.heap.size + 1, 2, none⟩) (by simp; omega) (.int .u32 0))
  have gc0 := k4.cell 0
  have gz0 := k4.frozen 0
  have gc1 := k4.cell 1
  have gz1 := k4.frozen 1
  have gc2 := k4.cell 2
  have gz2 := k4.frozen 2
  simp only [List.getElem?_toArray, List.getElem?_cons_zero, List.getElem?_cons_succ] at gc0 gc1 gc2
  clear k4 b4
  go_wp2
  generalize (((w2.setCell ⟨w.heap.size + 1, 0, none⟩ (.int .u32 0)).setCell ⟨w.heap.size + 1, 1, none⟩ (.int .u16 0)).setCell ⟨w.heap.size + 1, 2, none⟩ (.int .u32 0)) = w3 at x4 htx hx ⊢
  have c40 : w3.cell? ⟨w.heap.size + 1, 0, none⟩ = some (.int .u32 0) := x4.cell 0
  have c41 : w3.cell? ⟨w.heap.size + 1, 1, none⟩ = some (.int .u16 0) := x4.cell 1
  have c42 : w3.cell? ⟨w.heap.size + 1, 2, none⟩ = some (.int .u32 0) := x4.cell 2
  exact bodyPost_ret (v := .agg #[.int .u32 0, .int .u16 0, .int .u32 0]) (by simp [results, Tryz.results105, go_sem, c40, c41, c42]) rfl ⟨rfl, hx, htx⟩
def bytE (l : List UInt8) (most : Nat) : Nat := if numE l most = 0 then (if (l.drop (getF l).2.1).length < (getF l).1 then 2 else 0) else numE l most
def bytV (l : List UInt8) : List UInt8 := (l.drop (getF l).2.1).take (getF l).1
def bytR (l : List UInt8) : List UInt8 := (l.drop (getF l).2.1).drop (getF l).1
def GB (base : Nat) (L : List UInt8) (v : Value) (w : World) : Prop := ∃ A c, v = .slice A L.length c ∧ OwnB w base (.slice A L.length c) L.length L
theorem OwnB.setLow {w : World} {base n : Nat} {v : Value} {l : List UInt8} (h : OwnB w base v n l) {p : Addr} (hp : p.block < base) (u : Value) : OwnB (w.setCell p u) base v n l := by
  refine ⟨h.1, ?_⟩
  rcases h.2 with h0 | ⟨g, cap, cur, rfl, hb, hh, r⟩
  · exact .inl h0
  · exact .inr ⟨g, cap, cur, rfl, hb, (Below.heap_setCell w p u g (by omega)).trans hh, r⟩
theorem GB.set_ {base : Nat} {L : List UInt8} {v : Value} {w : World} (h : GB base L v w) {p : Addr} (hp : p.block < base) (u : Value) : GB base L v (w.setCell p u) := by
  obtain ⟨A, c, e, h⟩ := h
  exact ⟨A, c, e, h.setLow hp u⟩
theorem GB.mono {base base' : Nat} {L : List UInt8} {v : Value} {w : World} (h : GB base L v w) (hb : base' ≤ base) : GB base' L v w := by
  obtain ⟨A, c, e, h⟩ := h
  exact ⟨A, c, e, h.mono hb⟩
def Byt1P (w : World) (b base : Nat) (l : List UInt8) (most : Nat) : Ending → World → Prop := CloP w b (fun v _ => ∃ (V : Option Addr) (m d : Nat), v = .slice V m d) (GB base (bytV l)) (bytR l) (bytE l most)
theorem rdAt_drew {w : World} {b t : Nat} {l : List UInt8} (h : RdAt w b l t) : RdAt w.drew b l t := h
set_option maxRecDepth 100000 in
theorem byt1_any (b p q base : Nat) (l : List UInt8) (most : Int) (w : World) (h : RdAt w b l 0) (hp : w.cell? ⟨p, 0, none⟩ = some (.pointer (some ⟨b, 0, none⟩))) (hq : w.cell? ⟨q, 0, none⟩ = some (.int .i64 most)) (hpb : p ≠ b) (hqb : q ≠ b) (hm0 : -9223372036854775808 ≤ most) (hm1 : most ≤ 9223372036854775807) (hbase : base ≤ w.heap.size) (hl : l.length ≤ 100000000000) :
    Calls Tryz.prog 173 #[.pointer (some ⟨p, 0, none⟩), .pointer (some ⟨q, 0, none⟩)] w (Byt1P w b base l (mostF most)) := by
  have hlt := h.lt
  have hm64 : mostF most < 18446744073709551616 := by unfold mostF; omega
  have ca := fun W => atMost_any most W hm0 hm1
  have cok := fun W (h : RdAt W b l 0) => rdnum_ok b l (mostF most) W h hm64
  have cbad := fun W (h : RdAt W b l 0) => rdnum_bad b l (mostF most) W h hm64
  have g1 := fun W (ht : Turn w W b none) => ht.cell hp (by simpa using hpb) (by simp)
  have g2 := fun W (ht : Turn w W b none) => ht.cell hq (by simpa using hqb) (by simp)
  by_cases hE : numE l (mostF most) = 0
  · have hB : bytE l (mostF most) = if (l.drop (getF l).2.1).length < (getF l).1 then 2 else 0 := by unfold bytE; rw [if_pos hE]
    have c1 := fun W h => cok W h hE
    have hn64 := (getF_bds l).1
    have hml : (l.drop (getF l).2.1).length ≤ l.length := by rw [List.length_drop]; omega
    have hZ : ∀ L V m d l' t w', t = bytE l (mostF most) → L = bytV l → RdAt w' b l' t → Turn w w' b none → (t = 0 → l' = bytR l ∧ GB base L (.slice V m d) w') → Byt1P w b base l (mostF most) (.returned (.slice V m d)) w' := by
      intro L V m d l' t w' e1 e2 e3 e4 e5
      subst e1 e2
      exact ⟨_, l', rfl, ⟨_, _, _, rfl⟩, e3, e4, e5⟩
    have hR : bytR l = (l.drop (getF l).2.1).drop (getF l).1 := rfl
    have hV : bytV l = (l.drop (getF l).2.1).take (getF l).1 := rfl
    clear cok cbad hE
    generalize (getF l).1 = n at *
    generalize l.drop (getF l).2.1 = M at *
    generalize mostF most = m9 at *
    go_enter Tryz.func173, Tryz.ntmps173
    go_wp2
    go_region_held3 (fun w' => w'.cell? ⟨p, 0, none⟩ = some (.pointer (some ⟨b, 0, none⟩)) ∧ w'.cell? ⟨q, 0, none⟩ = some (.int .i64 most))
      (first | exact ⟨hp, hq⟩ | exact ⟨g1 _ hT2, g2 _ hT2⟩)
      (first | ((with_reducible refine (ca _).mono ?_); rintro e w' ⟨rfl, rfl⟩) | ((with_reducible refine (c1 _ (rdAt_drew h)).mono ?_); rintro e w2 ⟨rfl, h2, ht2⟩; have hT2 : Turn w w2 b none := Turn.ahead ((Below.refl _ _).drew) ht2))
    have hp2 := g1 _ hT2
    have hq2 := g2 _ hT2
    clear ht2
    have ht2 := hT2
    clear hT2 g1 g2 c1 ca hp hq h
    obtain ⟨A, c, k2⟩ := id h2
    obtain ⟨f0, f1⟩ := k2.cells
    obtain ⟨-, hbs, hlc, hcm⟩ := k2
    unfold maxLen at hcm
    by_cases hs : M.length < n
    · rw [if_pos hs] at hB
      have hz : ∀ w', RdAt w' b M 2 → Turn w w' b none → Byt1P w b base l m9 (.returned (.slice none 0 0)) w' := fun w' e3 e4 => hZ _ none 0 0 M 2 w' hB.symm rfl e3 e4 (fun e => by cases e)
      have HZ := Lib.hid hz
      have cs := stop_first b M 2 w2 h2
      clear hz hZ hB hR hV hbs
      generalize M.length = r at *
      have wr : IntKind.u64.wrap (r : Int) = (r : Int) := by rw [IntKind.wrap_u64]; omega
      go_wp2_with fail
      refine cs.mono ?_
      rintro e w3 ⟨rfl, h3, ht3⟩
      have HW := Lib.hid (HZ.out w3 h3 (ht2.trans ht3 (Mov.refl _ _)))
      clear h3 ht3 ht2 cs h2 f0 f1
      go_wp2
      go_ret
      exact HW.out
    · rw [if_neg hs] at hB
      have hcut := hbs.take (k := n) (by omega)
      have hlen : (M.take n).length = n := by rw [List.length_take]; omega
      have hz : ∀ V d w', RdAt w' b (M.drop n) 0 → Turn w w' b none → OwnB w' base (.slice V n d) n (M.take n) → Byt1P w b base l m9 (.returned (.slice V n d)) w' := fun V d w' e3 e4 e5 => hZ (M.take n) V n d (M.drop n) 0 w' hB.symm hV.symm e3 e4 (fun _ => ⟨hR.symm, V, d, by rw [hlen], by rw [hlen]; exact e5⟩)
      have HZ := Lib.hid hz
      have cp := fun W (h : RdAt W b M 0) => pass_ok b M 0 n W h (by omega)
      have cc := fun W (h : Bs W b A n (M.take n)) (hW : b ≤ W.heap.size) => clone_any A n c (M.take n) b W h hW (by omega)
      have hsn : n ≤ M.length := by omega
      have hnc : n ≤ c := by omega
      clear hz hZ hB hR hV hlen
      generalize M.take n = L at *
      generalize M.drop n = D at *
      have hb2 := h2.lt
      generalize M.length = r at *
      have wr : IntKind.u64.wrap (r : Int) = (r : Int) := by rw [IntKind.wrap_u64]; omega
      have wn : IntKind.i64.wrap (n : Int) = (n : Int) := IntWalk.i64_in _ (by omega)
      go_wp2_with fail
      refine (cc w2 hcut (Nat.le_of_lt hb2)).mono ?_
      rintro e w3 ⟨V, d, rfl, hO, hb3⟩
      have h3 := h2.later hb3
      have hp3 := (hb3.cell (World.block_lt_of_cell? _ _ hp2)).trans hp2
      have ht3 := ht2.later hb3
      have hq3 := (hb3.cell (World.block_lt_of_cell? _ _ hq2)).trans hq2
      clear cc hcut f0 f1 h2 hp2 hq2 hb3
      go_wp2_with fail
      refine (cp w3 h3).mono ?_
      rintro e w4 ⟨rfl, h4, ht4⟩
      have hO4 : OwnB w4 base (.slice V n d) n L := (hO.turn ht4 (fun g hg => ⟨by have := (hO.lt g hg).1; omega, by simp⟩)).mono (by have := ht2.size; omega)
      have HW := Lib.hid (HZ.out V d w4 h4 (ht3.trans ht4 (Mov.refl _ _)) hO4)
      clear cp h3 hp3 ht3 hO hO4 h4 ht4 hq3
      go_wp2
      go_ret
      exact HW.out
  · have hB : bytE l (mostF most) = numE l (mostF most) := by unfold bytE; rw [if_neg hE]
    have c1 := fun W h => cbad W h hE
    have hZ : ∀ V m d l' w', RdAt w' b l' (numE l (mostF most)) → Turn w w' b none → Byt1P w b base l (mostF most) (.returned (.slice V m d)) w' := by
      intro V m d l' w' e3 e4
      exact ⟨_, l', rfl, ⟨_, _, _, rfl⟩, by rw [hB]; exact e3, e4, fun e => absurd (hB.symm.trans e) hE⟩
    have HZ := Lib.hid hZ
    clear cok cbad hB hZ
    generalize numE l (mostF most) = t9 at *
    generalize mostF most = m9 at *
    go_enter Tryz.func173, Tryz.ntmps173
    go_wp2
    go_region_held3 (fun w' => w'.cell? ⟨p, 0, none⟩ = some (.pointer (some ⟨b, 0, none⟩)) ∧ w'.cell? ⟨q, 0, none⟩ = some (.int .i64 most))
      (first | exact ⟨hp, hq⟩ | exact ⟨g1 _ hT2, g2 _ hT2⟩)
      (first | ((with_reducible refine (ca _).mono ?_); rintro e w' ⟨rfl, rfl⟩) | ((with_reducible refine (c1 _ (rdAt_drew h)).mono ?_); rintro e w2 ⟨rfl, h2, ht2⟩; have hT2 : Turn w w2 b none := Turn.ahead ((Below.refl _ _).drew) ht2))
    have hp2 := g1 _ hT2
    have hq2 := g2 _ hT2
    clear ht2
    have ht2 := hT2
    clear hT2 g1 g2 c1 ca hp hq h
    obtain ⟨A, c, k2⟩ := id h2
    obtain ⟨f0, f1⟩ := k2.cells
    obtain ⟨-, hbs, hlc, hcm⟩ := k2
    unfold maxLen at hcm
    have hcut := hbs.take (k := 0) (Nat.zero_le _)
    have cp := fun W (h : RdAt W b l t9) => pass_ok b l t9 0 W h (Nat.zero_le _)
    have cc := fun W (h : Bs W b A 0 (l.take 0)) (hW : b ≤ W.heap.size) => clone_any A 0 c (l.take 0) b W h hW (by omega)
    have hb2 := h2.lt
    generalize l.length = r at *
    have wr : IntKind.u64.wrap (r : Int) = (r : Int) := by rw [IntKind.wrap_u64]; omega
    go_wp2_with fail
    refine (cc w2 hcut (Nat.le_of_lt hb2)).mono ?_
    rintro e w3 ⟨V, d, rfl, hO, hb3⟩
    have h3 := h2.later hb3
    have hp3 := (hb3.cell (World.block_lt_of_cell? _ _ hp2)).trans hp2
    have hq3 := (hb3.cell (World.block_lt_of_cell? _ _ hq2)).trans hq2
    have ht3 := ht2.later hb3
    clear cc hcut f0 f1 h2 hp2 hq2 hb3
    go_wp2_with fail
    refine (cp w3 h3).mono ?_
    rintro e w4 ⟨rfl, h4, ht4⟩
    have HW := Lib.hid (HZ.out V 0 d (l.drop 0) w4 h4 (ht3.trans ht4 (Mov.refl _ _)))
    clear cp h3 hp3 ht3 hO h4 ht4 hq3 hE
    go_wp2
    go_ret
    exact HW.out
set_option maxRecDepth 100000 in
theorem rdbytes_any (b : Nat) (l : List UInt8) (most : Int) (w : World) (h : RdAt w b l 0) (hm0 : -9223372036854775808 ≤ most) (hm1 : most ≤ 9223372036854775807) (hl : l.length ≤ 100000000000) :
    Calls Tryz.prog 109 #[.pointer (some ⟨b, 0, none⟩), .int .i64 most] w (WholeG w b (.slice none 0 0) (GB w.heap.size (bytV l)) l (bytR l) (bytE l (mostF most))) := by
  have hmf : ∀ (fn : Fn) (first cap : Array Value) (w : World), (Instr.makeFunc fn first cap).run Tryz.prog w = .ok (.func fn first cap) w := fun _ _ _ _ => rfl
  have hb1 : Below w.heap.size w ((w.alloc (.cells #[.pointer (some ⟨b, 0, none⟩)] 91)).alloc (.cells #[.int .i64 most] 3)) := ((Below.refl _ _).alloc (Nat.le_refl _) _).alloc (by simp) _
  have hlt := h.lt
  obtain ⟨w1, hw1⟩ : ∃ w1, w1 = ((w.alloc (.cells #[.pointer (some ⟨b, 0, none⟩)] 91)).alloc (.cells #[.int .i64 most] 3)) := ⟨_, rfl⟩
  have hs1 : w1.heap.size = w.heap.size + 2 := by rw [hw1]; simp
  have hp1 : w1.cell? ⟨w.heap.size, 0, none⟩ = some (.pointer (some ⟨b, 0, none⟩)) := by rw [hw1]; go_simp
  have hq1 : w1.cell? ⟨w.heap.size + 1, 0, none⟩ = some (.int .i64 most) := by rw [hw1]; go_simp
  rw [← hw1] at hb1
  have h1 := h.later hb1
  have hle := hb1.size
  have cw := bytes_whole b w.heap.size (w.heap.size + 1) l (bytR l) (bytE l (mostF most)) (GB (w1.heap.size + 2) (bytV l)) w1 h1 (fun _ _ _ _ hW h => h.set_ (by simp) _) (fun W hb hs hR => byt1_any b w.heap.size (w.heap.size + 1) (w1.heap.size + 2) l most W hR ((hb.cell (World.block_lt_of_cell? _ _ hp1)).trans hp1) ((hb.cell (World.block_lt_of_cell? _ _ hq1)).trans hq1) (by omega) (by omega) hm0 hm1 hs hl)
  clear h1 h
  generalize bytV l = V9 at *
  generalize bytR l = lr9 at *
  generalize bytE l (mostF most) = t9 at *
  have hH := hide hs1
  clear hs1
  go_enter Tryz.func109, Tryz.ntmps109
  go_wp2_with fail
  rw [← hw1]
  clear hw1
  refine cw.mono ?_
  rintro e w2 (⟨ht, v, rfl, hg, hR, hT⟩ | ⟨ht, rfl, hR, hT⟩)
  · have hz : WholeG w b (.slice none 0 0) (GB w.heap.size V9) l (lr9) (t9) (.returned v) w2 := .inl ⟨ht, v, rfl, hg.mono (by omega), hR, Turn.ahead hb1 hT⟩
    have HZ := Lib.hid hz
    clear hz hg hR hT ht cw
    go_wp2
    go_ret
    exact HZ.out
  · have hz : WholeG w b (.slice none 0 0) (GB w.heap.size V9) l (lr9) (t9) (.returned (.slice none 0 0)) w2 := .inr ⟨ht, rfl, hR, Turn.ahead hb1 hT⟩
    have HZ := Lib.hid hz
    clear hz hR hT ht cw
    go_wp2
    go_ret
    exact HZ.out
set_option maxRecDepth 100000 in
theorem rdbytes_stop (b t : Nat) (l : List UInt8) (most : Int) (w : World) (h : RdAt w b l t) (ht : t ≠ 0) :
    Calls Tryz.prog 109 #[.pointer (some ⟨b, 0, none⟩), .int .i64 most] w (ReadsP w b (.slice none 0 0) l t) := by
  have hmf : ∀ (fn : Fn) (first cap : Array Value) (w : World), (Instr.makeFunc fn first cap).run Tryz.prog w = .ok (.func fn first cap) w := fun _ _ _ _ => rfl
  have hb1 : Below w.heap.size w ((w.alloc (.cells #[.pointer (some ⟨b, 0, none⟩)] 91)).alloc (.cells #[.int .i64 most] 3)) := ((Below.refl _ _).alloc (Nat.le_refl _) _).alloc (by simp) _
  have cw := fun f W (h : RdAt W b l t) => bytes_stop f b t l W h ht
  obtain ⟨w1, hw1⟩ : ∃ w1, w1 = ((w.alloc (.cells #[.pointer (some ⟨b, 0, none⟩)] 91)).alloc (.cells #[.int .i64 most] 3)) := ⟨_, rfl⟩
  have hlt := h.lt
  rw [← hw1] at hb1
  have h1 := h.later hb1
  clear h
  have hle := hb1.size
  go_enter Tryz.func109, Tryz.ntmps109
  go_wp2_with fail
  rw [← hw1]
  clear hw1
  refine (cw _ w1 h1).mono ?_
  rintro e w2 ⟨rfl, hR, hT⟩
  clear cw
  have hz : ReadsP w b (.slice none 0 0) l t (.returned (.slice none 0 0)) w2 := ⟨rfl, hR, Turn.ahead hb1 hT⟩
  have HZ := Lib.hid hz
  clear hz
  go_wp2
  go_ret
  exact HZ.out
end Go.Proofs.YtjmkecaljkcoiaaGreatDoor
