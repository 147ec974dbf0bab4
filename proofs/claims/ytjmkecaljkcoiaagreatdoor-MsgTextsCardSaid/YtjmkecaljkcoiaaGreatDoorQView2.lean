import Derived.Maps.AppendAt
import Derived.Test.YtjmkecaljkcoiaaGreatDoorQTurn
import Derived.Test.YtjmkecaljkcoiaaGreatDoorQMask4
namespace Go.Proofs.YtjmkecaljkcoiaaGreatDoor
open Go.RowKit Go.Maps
set_option linter.unusedVariables false
set_option linter.unusedSimpArgs false
def plc0 (l : List Pr) (p : Pr) : Nat := if p ∈ l then plc l p else 0
def PlaceP (w : World) (b n : Nat) (l : List Pr) : Prop :=
  ∃ D : DataW Unit, w.ownsMap Tryz.prog 44 (plainElem Tryz.prog 3) b n D ∧ (∀ p : Pr, Maps.has D p.key = decide (p ∈ l) ∧ D.atKey p.key (.lit (.int .i64 0)) = .lit (.int .i64 (plc0 l p : Nat))) ∧ Maps.size D = (dedup l).length
theorem PlaceP.made (w : World) : PlaceP (w.alloc (.map #[] 0)) w.heap.size 0 [] := ⟨.map [], World.ownsMap_made _ _ _ _, fun p => ⟨by simp [Maps.has], by simp [DataW.atKey, plc0]⟩, rfl⟩
theorem PlaceP.put {w w' : World} {b n m : Nat} {l : List Pr} {D : DataW Unit} {q : Pr} (hD : w.ownsMap Tryz.prog 44 (plainElem Tryz.prog 3) b n D) (hh : ∀ p : Pr, Maps.has D p.key = decide (p ∈ l) ∧ D.atKey p.key (.lit (.int .i64 0)) = .lit (.int .i64 (plc0 l p : Nat))) (hs : Maps.size D = (dedup l).length) (hq : q ∉ l) (v : Int) (hv : v = (l.length : Int))
    (h' : w'.ownsMap Tryz.prog 44 (plainElem Tryz.prog 3) b m (D.put q.key (.lit (.int .i64 v)))) : PlaceP w' b m (l ++ [q]) := by
  subst hv
  refine ⟨_, h', fun p => ?_, ?_⟩
  · by_cases e : p = q
    · subst e
      rw [has_put_same hD.isMap (lawPid.key (key_pr p)), atKey_put_same hD.isMap (lawPid.key (key_pr p))]
      unfold plc0
      rw [if_pos (by simp), plc_new hq []]
      simp
    · rw [has_put_other (fun e' => e (Pr.key_inj e')), atKey_put_other (fun e' => e (Pr.key_inj e'))]
      refine ⟨by rw [(hh p).1]; simp [e], ?_⟩
      rw [(hh p).2]
      unfold plc0
      by_cases hp : p ∈ l
      · rw [if_pos hp, if_pos (by simp [hp]), plc_append hp]
      · rw [if_neg hp, if_neg (by simp [hp, e])]
  · rw [size_put (hD.tidy lawPid), (hh q).1, decide_eq_false hq, dedup_snoc, dedS, if_neg (fun h => hq ((mem_dedup l q).1 h)), hs]
    simp
theorem PlaceP.same {w : World} {b n : Nat} {l : List Pr} {q : Pr} (h : PlaceP w b n l) (hq : q ∈ l) : PlaceP w b n (l ++ [q]) := by
  obtain ⟨D, h1, h2, h3⟩ := h
  refine ⟨D, h1, fun p => ?_, by rw [dedup_snoc, dedS, if_pos ((mem_dedup l q).2 hq), h3]⟩
  rw [(h2 p).1, (h2 p).2]
  by_cases hp : p ∈ l
  · refine ⟨by simp [hp], ?_⟩
    unfold plc0
    rw [if_pos hp, if_pos (by simp [hp]), plc_append hp]
  · have hne : p ≠ q := fun e => hp (e ▸ hq)
    refine ⟨by simp [hp, hne], ?_⟩
    unfold plc0
    rw [if_neg hp, if_neg (by simp [hp, hne])]
theorem PlaceP.grown {w w' : World} {b n : Nat} {l : List Pr} {row : Option Nat} (h : PlaceP w b n l) (hg : w.grownBy w' row) (hne : some b ≠ row) : PlaceP w' b n l := by
  obtain ⟨D, h1, h2⟩ := h
  exact ⟨D, h1.kept hg hne, h2⟩
theorem PlaceP.alloc {w : World} {b n : Nat} {l : List Pr} (h : PlaceP w b n l) (o : Obj) : PlaceP (w.alloc o) b n l := by
  obtain ⟨D, h1, h2⟩ := h
  exact ⟨D, h1.alloc o, h2⟩
theorem PlaceP.mono {w : World} {b n m : Nat} {l : List Pr} (h : PlaceP w b n l) (hn : n ≤ m) : PlaceP w b m l := by
  obtain ⟨D, h1, h2⟩ := h
  exact ⟨D, h1.mono hn, h2⟩
theorem PlaceP.setCell {w : World} {b n : Nat} {l : List Pr} (h : PlaceP w b n l) {a : Addr} (ha : b ≠ a.block) (u : Value) : PlaceP (w.setCell a u) b n l := by
  obtain ⟨D, h1, h2⟩ := h
  exact ⟨D, h1.setCell ha u, h2⟩
theorem PlaceP.later {w w' : World} {b n : Nat} {l : List Pr} (h : PlaceP w b n l) (hb : Below w.heap.size w w') : PlaceP w' b n l :=
  h.grown (row := none) ⟨hb.os, hb.tape, hb.output, hb.size, fun i hi _ => hb.block i hi⟩ (fun e => by cases e)
theorem PlaceP.drew {w : World} {b n : Nat} {l : List Pr} (h : PlaceP w b n l) : PlaceP w.drew b n l := h.later ((Below.refl _ _).drew)
theorem zeroIntP (w : World) : (zeroValue 3).run Tryz.prog w = .ok (.int .i64 0) w := by kernel_rfl
theorem underIntP : Tryz.prog.underlying 3 = some (.int .i64) := by kernel_rfl
theorem PlaceP.look {w : World} {b n : Nat} {l : List Pr} (h : PlaceP w b n l) (p : Pr) : ∃ D : DataW Unit, w.ownsMap Tryz.prog 44 (plainElem Tryz.prog 3) b n D ∧ Maps.has D p.key = decide (p ∈ l) ∧ D.atKey p.key (.lit (.int .i64 0)) = .lit (.int .i64 (plc0 l p : Nat)) := by
  obtain ⟨D, h1, h2, _⟩ := h
  exact ⟨D, h1, h2 p⟩
theorem wpList_lookup_knownP {H : Type} {P : Program} (w : World) {ops : Array Oper} {rest : List Oper} {o : Oper} {a : Act} {Q : Exit → Act → World → Prop} (hg : o.guard = none) (m x : Operand) (t : TypeId) (hop : o.op = Op.lookup t m x true)
    (k e : TypeId) (q : IntKind) (K : Keyed P k) (ht : P.underlying t = some (.map k e)) (he : P.underlying e = some (.int q)) (hz : (zeroValue e).run P w = .ok (.int q 0) w) (b n : Nat) (D : DataW H)
    (hm : a.eval m = .map (some b)) (hown : w.ownsMap P k (plainElem P e) b n D) (key : Value) (kl : Lit) (hx : a.eval x = key) (hkey : keyOf P k key = some kl) (c : Int) (hc : D.atKey kl (.lit (.int q 0)) = .lit (.int q c)) (t' : Bool) (hh : Maps.has D kl = t')
    (hK : wpList P ops Q rest (a.put o.dst (.tuple #[.int q c, .bool t'])) w) :
    wpList P ops Q (o :: rest) a w :=
  wpList_lookup_own_ok_int w hg m x t hop k e q K ht he hz b n D hm hown key kl hx hkey (fun c' hat hwc => by
    rw [hc] at hat
    injection hat with hat
    injection hat with _ hat
    subst hat
    rw [hh]
    exact hK)
def RanksP (w : World) (l : List Pr) (e : Ending) (w' : World) : Prop := ∃ b, e = .returned (.map (some b)) ∧ PlaceP w' b l.length l ∧ w.heap.size ≤ b ∧ b < w'.heap.size ∧ Below w.heap.size w w'
set_option maxRecDepth 100000 in
theorem ranksOf_any (A : Option Addr) (n c : Nat) (l : List Pr) (B : Nat) (w : World) (hA : Es prC w B A n l) (hB : B ≤ w.heap.size) (hn : n ≤ 1000000) :
    Calls Tryz.prog 81 #[.slice A n c] w (RanksP w l) := by
  have hlen := hA.len
  have HL := hide hlen
  clear hlen
  have hmm := @run_makeMap Tryz.prog
  have h0 : PlaceP (w.alloc (.map #[] 0)) w.heap.size 0 (l.take 0) := PlaceP.made w
  go_enter Tryz.func81, Tryz.ntmps81
  go_wp2
  go_loopw [11] (fun i wr => ∃ k : Nat, k ≤ n ∧ i = .int .i64 k ∧ PlaceP wr w.heap.size k (l.take k) ∧ Below w.heap.size w wr ∧ w.heap.size + 1 ≤ wr.heap.size) (fun i _ => n - (intOf i).toNat)
  case atStart => exact ⟨0, Nat.zero_le _, rfl, h0, (Below.refl _ _).alloc (Nat.le_refl _) _, by simp⟩
  case round =>
    obtain ⟨k, hk, rfl, hpl, hb, hsz⟩ := hrel
    clear h0
    by_cases hlt : k < n
    · have hAr := hA.below (hb.mono hB)
      obtain ⟨ad, hl, rfl, hbl, hc⟩ := hAr.at_ prOk hlt
      have hold := fun h : l[k] ∈ l.take k => (hpl.same h).mono (Nat.le_succ k)
      have hnew := fun {w' D} h' (h : l[k] ∉ l.take k) => @PlaceP.put wr w' w.heap.size k (k + 1) (l.take k) D l[k] h'
      have hlk : ((l.take k).length : Int) = (k : Int) := by rw [List.length_take]; have := HL.out; omega
      rw [← List.take_succ_eq_append_getElem hl] at hold
      have e9 := List.take_succ_eq_append_getElem hl
      obtain ⟨p, hp⟩ : ∃ p, p = l[k] := ⟨_, rfl⟩
      rw [← hp] at hc hold e9
      obtain ⟨c0, c1⟩ := pr_at hc
      clear hp hc hnew
      obtain ⟨D, hD, hh, hs⟩ := hpl
      have hkey := key_pr p
      have hhas := (hh p).1
      have hval := (hh p).2
      by_cases hin : p ∈ l.take k
      · rw [decide_eq_true hin] at hhas
        have HO := hide (hold hin)
        generalize plc0 (l.take k) p = j at hval
        clear hold hin hh hs hlk e9
        go_wp2_with (at_lookup; refine wpList_lookup_knownP _ rfl _ _ 124 rfl 44 3 .i64 lawPid Tryz.underlying124 underIntP (zeroIntP _) w.heap.size k D rfl (hD.alloc _) _ _ rfl hkey (j : Int) hval true hhas ?_)
        go_roundw
        case rel => exact ⟨k + 1, by omega, by go_num, HO.out.alloc _, hb.alloc hb.size _, by simp; omega⟩
        case measure => simp [intOf]; omega
      · rw [decide_eq_false hin] at hhas
        rw [show plc0 (l.take k) p = 0 from if_neg hin] at hval
        have hwfq : (Lit.int .i64 k).wf = true := by simp [Lit.wf, IntKind.min, IntKind.max, IntKind.bits, IntKind.signed]; omega
        have hpe := plainElem_int (H := Unit) (P := Tryz.prog) (e := 3) underIntP hwfq
        have HH := hide (And.intro hh (And.intro hs (And.intro hin (And.intro hlk e9))))
        clear hold hin hh hs hlk hwfq hAr e9
        go_wp2_with (first
          | (at_lookup; refine wpList_lookup_knownP _ rfl _ _ 124 rfl 44 3 .i64 lawPid Tryz.underlying124 underIntP (zeroIntP _) w.heap.size k D rfl (hD.alloc _) _ _ rfl hkey _ hval false hhas ?_)
          | (at_mapUpdate; refine wpList_mapUpdate_own _ rfl _ _ _ 124 rfl 44 3 lawPid Tryz.underlying124 (plainElem Tryz.prog 3) w.heap.size k D rfl (hD.alloc _) (by unfold maxLen; omega) _ _ _ rfl rfl hkey _ [] hpe ?_; intro w1 hD1 hgrow1; refine Hid.out ?_))
        refine Lib.hid ?_
        obtain ⟨hh, hs, hin, hlk, e9⟩ := HH.out
        have hset1 := PlaceP.put hD hh hs hin _ hlk.symm hD1
        rw [← e9] at hset1
        have hb1 : Below w.heap.size w w1 := (hb.alloc hb.size (.cells #[.int .u16 p.i, .int .u32 p.k] 44)).grown hgrow1 (by have := hb.size; simp; omega) (fun j hj => by injection hj with hj; omega)
        have hz1 : w.heap.size + 1 ≤ w1.heap.size := by have := hgrow1.size; simp at this; omega
        have HB := hide (And.intro hset1 (And.intro hb1 hz1))
        clear hh hs hin hlk hset1 hb1 hgrow1 hD hD1 hb hhas hval HH e9
        go_wp2
        go_roundw
        case rel => exact ⟨k + 1, by omega, by go_num, HB.out⟩
        case measure => simp [intOf]; omega
    · have e : l.take k = l := List.take_of_length_le (by rw [HL.out]; omega)
      rw [e] at hpl
      obtain rfl : k = l.length := by have := HL.out; omega
      have HH := hide (And.intro hpl (And.intro hb hsz))
      clear e hpl hb
      go_wp2
      go_ret
      exact ⟨_, rfl, HH.out.1, Nat.le_refl _, HH.out.2.2, HH.out.2.1⟩
set_option maxRecDepth 100000 in
theorem rise_any (b N : Nat) (mem : List Pr) (A : Option Addr) (n c : Nat) (l : List Pr) (B : Nat) (w : World) (t : Bool) (hp : PlaceP w b N mem) (hA : Es prC w B A n l) (hB : B ≤ w.heap.size) (hn : n ≤ 1000000) (ht : t = true ↔ RiseP mem l) :
    Calls Tryz.prog 83 #[.map (some b), .slice A n c] w fun e w' => e = .returned (.bool t) ∧ Below w.heap.size w w' := by
  have hlen := hA.len
  have HL := hide hlen
  have HT := hide ht
  clear hlen ht
  have h0 := RiseTo.start mem l
  have hl0 : (-1 : Int) = lastI mem (l.take 0) := rfl
  go_enter Tryz.func83, Tryz.ntmps83
  go_wp2
  go_loopw [5, 12] (fun v i wr => ∃ (k : Nat) (la : Int), k ≤ n ∧ i = .int .i64 k ∧ v = .int .i64 la ∧ RiseTo mem l k ∧ Hid (la = lastI mem (l.take k)) ∧ Below w.heap.size w wr) (fun _ i _ => n - (intOf i).toNat)
  case atStart => exact ⟨0, -1, Nat.zero_le _, rfl, rfl, h0, hide hl0, Below.refl _ _⟩
  case round =>
    obtain ⟨k, la, hk, rfl, rfl, hto, HLA, hb⟩ := hrel
    clear h0 hl0
    by_cases hlt : k < n
    · have hAr := hA.below (hb.mono hB)
      obtain ⟨ad, hl, rfl, hbl, hc⟩ := hAr.at_ prOk hlt
      have s1 := fun h1 h2 => hto.step hl h1 h2
      have s2 := fun h1 => RiseTo.gone (mem := mem) hl h1
      have s3 := fun h1 => RiseTo.low (mem := mem) hl h1
      have s4 : lastI mem (l.take (k + 1)) = (plc mem l[k] : Int) := lastI_take hl
      rw [← HLA.out] at s1 s3
      obtain ⟨p, hpp⟩ : ∃ p, p = l[k] := ⟨_, rfl⟩
      rw [← hpp] at hc s1 s2 s3 s4
      obtain ⟨c0, c1⟩ := pr_at hc
      obtain ⟨D, hD, hhas, hval⟩ := (hp.later hb).look p
      have hkey := key_pr p
      have hb1 : Below w.heap.size w (wr.alloc (.cells #[.int .u16 p.i, .int .u32 p.k] 44)) := hb.alloc hb.size _
      clear hpp hc hAr hto
      by_cases hin : p ∈ mem
      · rw [decide_eq_true hin] at hhas
        rw [show plc0 mem p = plc mem p from if_pos hin] at hval
        generalize plc mem p = j at *
        by_cases hle : (j : Int) ≤ la
        · have hf : t = false := by
            cases t
            · rfl
            · exact absurd (HT.out.1 rfl) (s3 hle)
          have z1 : decide ((j : Int) ≤ la) = true := decide_eq_true hle
          have HF := hide hf
          clear s1 s2 s3 s4 hf hle
          go_wp2_with (at_lookup; refine wpList_lookup_knownP _ rfl _ _ 124 rfl 44 3 .i64 lawPid Tryz.underlying124 underIntP (zeroIntP _) b N D rfl (hD.alloc _) _ _ rfl hkey (j : Int) hval true hhas ?_)
          go_ret
          exact ⟨ret_bool HF.out.symm, hb1⟩
        · have hst := s1 hin (by omega)
          have z1 : decide ((j : Int) ≤ la) = false := decide_eq_false hle
          have HS := hide (And.intro hst s4)
          clear s1 s2 s3 s4 hst hle
          go_wp2_with (at_lookup; refine wpList_lookup_knownP _ rfl _ _ 124 rfl 44 3 .i64 lawPid Tryz.underlying124 underIntP (zeroIntP _) b N D rfl (hD.alloc _) _ _ rfl hkey (j : Int) hval true hhas ?_)
          go_roundw
          case rel => exact ⟨k + 1, _, by omega, by go_num, rfl, HS.out.1, hide HS.out.2.symm, hb1⟩
          case measure => simp [intOf]; omega
      · rw [decide_eq_false hin] at hhas
        rw [show plc0 mem p = 0 from if_neg hin] at hval
        have hf : t = false := by
          cases t
          · rfl
          · exact absurd (HT.out.1 rfl) (s2 hin)
        have HF := hide hf
        clear s1 s2 s3 s4 hf
        go_wp2_with (at_lookup; refine wpList_lookup_knownP _ rfl _ _ 124 rfl 44 3 .i64 lawPid Tryz.underlying124 underIntP (zeroIntP _) b N D rfl (hD.alloc _) _ _ rfl hkey _ hval false hhas ?_)
        go_ret
        exact ⟨ret_bool HF.out.symm, hb1⟩
    · have hd := HT.out.2 (hto.done (by rw [HL.out]; omega))
      have HD := hide hd
      clear hd hto
      go_wp2
      go_ret
      exact ⟨ret_bool HD.out.symm, hb⟩
end Go.Proofs.YtjmkecaljkcoiaaGreatDoor
