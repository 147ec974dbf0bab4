/-
  The law choraguslaw04.PsetPlays answers true, and does not panic, for every argument that its row allows. Conditions: none but the row's own.
-/
import Derived.Test.YtfjefhmpfnnmeaaRows
import Derived.WalkKit
import Derived.ProofKit
import Derived.OpenShut
import Derived.ShutString
import Derived.ChangeOld
import Derived.Below
import Derived.Test.YtfjefhmpfnnmeaaOpen
import Derived.Test.YtfjefhmpfnnmeaaOpenP
import Derived.Test.YtfjefhmpfnnmeaaSet10
import Derived.Test.YtfjefhmpfnnmeaaSet6
import Derived.Test.YtfjefhmpfnnmeaaActs4
import Derived.Test.YtfjefhmpfnnmeaaRowF
import Derived.Test.YtfjefhmpfnnmeaaPick
namespace Go.Proofs.Ytfjefhmpfnnmeaa.psetPlays
open Go.ChangeShapes Go.WideShapes Go.ChangeAt Go.RowKit
open Go.ChangeMaps (open_string shut_string)
set_option linter.unusedVariables false
set_option linter.unusedSimpArgs false

theorem sortP_self {x : List Pr} (h : Rising x) : sortP x = x := rising_ext _ _ (sortP_rising _) h fun p => mem_sortP x p
theorem rising_nodup {x : List Pr} (h : Rising x) : x.Nodup := h.imp fun {a b} hab e => by rw [e] at hab; omega
theorem rising_filter {x : List Pr} (h : Rising x) (f : Pr → Bool) : Rising (x.filter f) := h.filter f
/-- The block of an act, and its cells. -/
def ActAt (w : World) (b8 : Nat) (y : Ac4) : Prop := w.heap[b8]? = some (.cells #[.int .i64 y.kind, .int .u16 (y.p.i : Int), .int .u32 (y.p.k : Int), .slice y.A y.m y.c] 34 (0, 0))
theorem ActAt.cells {w : World} {b8 : Nat} {y : Ac4} (h : ActAt w b8 y) : w.cell? ⟨b8, 0, none⟩ = some (.int .i64 y.kind) ∧ w.cell? ⟨b8, 1, none⟩ = some (.int .u16 (y.p.i : Int)) ∧ w.cell? ⟨b8, 2, none⟩ = some (.int .u32 (y.p.k : Int)) ∧ w.cell? ⟨b8, 3, none⟩ = some (.slice y.A y.m y.c) :=
  ⟨cell_of_row w b8 0 _ _ (0, 0) h, cell_of_row w b8 1 _ _ (0, 0) h, cell_of_row w b8 2 _ _ (0, 0) h, cell_of_row w b8 3 _ _ (0, 0) h⟩
theorem ActAt.later {w w' : World} {b8 : Nat} {y : Ac4} (h : ActAt w b8 y) (hb : Below w.heap.size w w') : ActAt w' b8 y := (hb.block b8 (Array.getElem?_eq_some_iff.1 h).1).trans h
theorem act_cell {w w' : World} {b8 : Nat} {y : Ac4} (h : ActAt w b8 y) (hb : Below w.heap.size w w') : w'.cell? ⟨b8, 0, none⟩ = some (.int .i64 y.kind) ∧ w'.cell? ⟨b8, 1, none⟩ = some (.int .u16 (y.p.i : Int)) ∧ w'.cell? ⟨b8, 2, none⟩ = some (.int .u32 (y.p.k : Int)) ∧ w'.cell? ⟨b8, 3, none⟩ = some (.slice y.A y.m y.c) := (h.later hb).cells
theorem ActAt.turn {w w' : World} {b8 b : Nat} {mg : Option Nat} {acc : List Pr} {y : Ac4} (h : ActAt w b8 y) (hs : SetAt w b mg acc) (ht : Turn w w' b mg) : ActAt w' b8 y := by
  unfold ActAt at *
  refine (ht.block b8 (Array.getElem?_eq_some_iff.1 h).1 (fun e => ?_) (fun e => ?_)).trans h
  · rw [e, hs.1] at h
    injection h with h
    injection h with _ e2
    exact absurd e2 (by decide)
  · rcases hs.2 with ⟨h0, _⟩ | ⟨g', h0, D, ⟨es, clock, h1, _⟩, _⟩
    · rw [h0] at e; cases e
    · rw [h0] at e
      injection e with e
      subst e
      rw [h] at h1
      cases h1
theorem own_kind {w : World} {base n g : Nat} {v : Value} {x : List Pr} (h : OwnP w base v n x) (hv : some g = v.ownBlock) : ∃ cur, w.heap[g]? = some (.cells cur 32 (0, 0)) := by
  rcases h.2 with ⟨rfl, _⟩ | ⟨g', cap, cur, rfl, _, hg, _⟩
  · cases hv
  · injection hv with e
    subst e
    exact ⟨cur, hg⟩
theorem SetAt.row {w w' : World} {b base n : Nat} {mg : Option Nat} {acc x : List Pr} {v : Value} (h : SetAt w b mg acc) (ho : OwnP w base v n x) (hg : w.grownBy w' v.ownBlock) : SetAt w' b mg acc := by
  refine h.keep (hg.block b h.lt fun e => ?_) fun g hmg => hg.block g (h.mlt g hmg).1 fun e => ?_
  · obtain ⟨cur, hc⟩ := own_kind ho e
    rw [h.1] at hc
    injection hc with hc
    injection hc with _ e2
    exact absurd e2 (by decide)
  · obtain ⟨cur, hc⟩ := own_kind ho e
    subst hmg
    rcases h.2 with ⟨h0, _⟩ | ⟨g', h0, D, ⟨es, clock, h1, _⟩, _⟩
    · cases h0
    · injection h0 with e
      subst e
      rw [hc] at h1
      cases h1
theorem ActAt.row {w w' : World} {b8 base n : Nat} {x : List Pr} {v : Value} {y : Ac4} (h : ActAt w b8 y) (ho : OwnP w base v n x) (hg : w.grownBy w' v.ownBlock) : ActAt w' b8 y := by
  unfold ActAt at *
  refine (hg.block b8 (Array.getElem?_eq_some_iff.1 h).1 fun e => ?_).trans h
  obtain ⟨cur, hc⟩ := own_kind ho e
  rw [h] at hc
  injection hc with hc
  injection hc with _ e2
  exact absurd e2 (by decide)
theorem fold_sort (x l2 : List Pr) (hx : x.Nodup) : (l2.foldl dedS x).length = (sortP (x ++ l2)).length ∧ ∀ p, p ∈ sortP (x ++ l2) ↔ p ∈ l2.foldl dedS x := by
  have h : ∀ p, p ∈ sortP (x ++ l2) ↔ p ∈ l2.foldl dedS x := fun p => by rw [mem_sortP, mem_fold _ _ hx, List.mem_append]; exact Or.comm
  exact ⟨((List.perm_ext_iff_of_nodup (rising_nodup (sortP_rising _)) ((dedup_fold l2 x hx).1)).2 h).length_eq.symm, h⟩
set_option maxRecDepth 100000 in
set_option maxHeartbeats 4000000 in
theorem walk (A : Option Addr) (n c : Nat) (l : List Pr) (A' : Option Addr) (m d : Nat) (sc : List Ac4) (w : World) (w0 : Ps0 w A n c l) (w1 : Acts0 w A' m d sc) :
    Calls Try.prog 3 #[.slice A n c, .slice A' m d] w fun e w' => e = .returned (.bool true) ∧ Below w.heap.size w w' := by
  obtain ⟨hA, hnc, hcm⟩ := w0
  unfold maxLen at hcm
  have cg := great_any A' m d sc w w1
  obtain ⟨hS, hmd, hdm, hIn⟩ := w1
  have HI := hide hIn
  clear hIn
  unfold maxLen at hdm
  by_cases h4 : 40 < n
  · go_enter Try.func3, Try.ntmps3
    go_wp2_with fail
    refine (awake4_any _).mono ?_
    rintro e w' ⟨rfl, hb⟩
    go_wp2
    go_ret
    exact ⟨rfl, hb⟩
  · go_enter Try.func3, Try.ntmps3
    go_wp2_with fail
    refine cg.mono ?_
    rintro e wa ⟨bg, rfl, hg, hba⟩
    clear cg
    cases bg with
    | true =>
      clear hg
      go_wp2_with fail
      refine (awake4_any _).mono ?_
      rintro e w' ⟨rfl, hb⟩
      have hbz := hba.trans (hb.mono hba.size)
      clear hb hba
      go_wp2
      go_ret
      exact ⟨rfl, hbz⟩
    | false =>
      have HG := hide (hg rfl)
      clear hg
      have cn := snew_any A n c l w.heap.size wa (hA.below hba) hba.size (by omega)
      go_wp2_with fail
      refine cn.mono ?_
      rintro e wb ⟨b1, mg1, rfl, hs1, hb1, hm1, hb⟩
      have hb1 : w.heap.size ≤ b1 := Nat.le_trans hba.size hb1
      have hm1 : ∀ g, mg1 = some g → w.heap.size ≤ g := fun g hg => Nat.le_trans hba.size (hm1 g hg)
      have hbb := hba.trans (hb.mono hba.size)
      clear cn hb hba
      have cs := rsort_any A n c l w.heap.size wb (hA.below hbb) hbb.size (by omega)
      go_wp2_with fail
      refine cs.mono ?_
      rintro e wc ⟨A1, c1, rfl, ho1, hb⟩
      have hs1 := hs1.later hb
      have hbc := hbb.trans (hb.mono hbb.size)
      have ho1 : OwnP wc w.heap.size (.slice A1 (sortP l).length c1) (sortP l).length (sortP l) := OwnE.mono ho1 hbb.size
      have hs1 : SetAt wc b1 mg1 (sortP l) := hs1.same (rising_nodup (sortP_rising l)) fun p => by rw [mem_sortP, mem_dedup]
      have hr1 := sortP_rising l
      have hl1 := sortP_len l
      rw [hA.len] at hl1
      clear cs hb hbb
      generalize sortP l = x1 at *
      obtain ⟨q1, hq1⟩ : ∃ q, q = x1.length := ⟨_, rfl⟩
      rw [← hq1] at ho1 hl1 ⊢
      clear hq1
      go_wp2_with fail
      go_loopw [6, 7] (fun v6 v7 wr => ∃ (i q : Nat) (Ax : Option Addr) (cx : Nat) (x : List Pr) (mg : Option Nat), i ≤ m ∧ i ≤ 100 ∧ v7 = .int .i64 i ∧ v6 = .slice Ax q cx ∧ q ≤ 40 + 40 * i ∧ Rising x ∧ OwnP wr w.heap.size (.slice Ax q cx) q x ∧ SetAt wr b1 mg x ∧ (∀ g, mg = some g → w.heap.size ≤ g) ∧ Below w.heap.size w wr) (fun _ v7 _ => m - (intOf v7).toNat)
      case atStart => exact ⟨0, q1, A1, c1, x1, mg1, Nat.zero_le _, by decide, rfl, rfl, by omega, hr1, ho1, hs1, hm1, hbc⟩
      case round =>
        obtain ⟨i, q, Ax, cx, x, mg, him, hi1, rfl, rfl, hqi, hrx, hown, hset, hmg, hbr⟩ := hrel
        clear hs1 hm1 hbc ho1 hr1 hl1
        by_cases hlt : i < m
        · have z2 : (i : Int) < (m : Int) := by omega
          by_cases hlt2 : i < 100
          · have z3 : (i : Int) < 100 := by omega
            obtain ⟨ad, hl, rfl, hbl, hc⟩ := (hS.below hbr).at_ acOk hlt
            obtain ⟨y, hy⟩ : ∃ y, y = sc[i] := ⟨_, rfl⟩
            rw [← hy] at hc
            obtain ⟨c0, c1, c2, c3⟩ := ac_at hc
            have hym : y.m ≤ 40 := by rw [hy]; exact HG.out i hlt hlt2 hl
            obtain ⟨hyk, hyl, hyc, hyd⟩ : AcIn w y := HI.out y (by rw [hy]; exact List.getElem_mem hl)
            unfold maxLen at hyd
            clear hy hc
            have hW8 : ActAt (wr.alloc (.cells #[.int .i64 y.kind, .int .u16 (y.p.i : Int), .int .u32 (y.p.k : Int), .slice y.A y.m y.c] 34)) wr.heap.size y := heap_alloc_new wr _
            have hW2 := hide hW8
            obtain ⟨e0, e1, e2, e3⟩ := hW8.cells
            have cp := fun W => pick_any y.kind 5 W hyk.1 hyk.2 (by decide) (by decide)
            obtain ⟨r5, hr5⟩ : ∃ k : Nat, pickF y.kind 5 = (k : Int) := Int.eq_ofNat_of_zero_le (pickF_bd (a := y.kind) (n := 5) (by decide)).1
            have hr6 : r5 < 5 := by have := (pickF_bd (a := y.kind) (n := 5) (by decide)).2; rw [hr5] at this; omega
            rw [hr5] at cp
            have hqx := OwnE.len prOk hown
            clear hr5 hyk
            go_wp2_with fail
            refine (cp _).mono ?_
            rintro e _ ⟨rfl, rfl⟩
            have own1 := hown.alloc (.cells #[.int .i64 y.kind, .int .u16 (y.p.i : Int), .int .u32 (y.p.k : Int), .slice y.A y.m y.c] 34)
            have set1 := hset.alloc (.cells #[.int .i64 y.kind, .int .u16 (y.p.i : Int), .int .u32 (y.p.k : Int), .slice y.A y.m y.c] 34)
            have bel1 := hbr.alloc hbr.size (.cells #[.int .i64 y.kind, .int .u16 (y.p.i : Int), .int .u32 (y.p.k : Int), .slice y.A y.m y.c] 34)
            generalize (wr.alloc (.cells #[.int .i64 y.kind, .int .u16 (y.p.i : Int), .int .u32 (y.p.k : Int), .slice y.A y.m y.c] 34)) = W at *
            generalize wr.heap.size = b8 at *
            clear hown hset hbr cp c0 c1 c2 c3
            by_cases s2 : r5 = 2
            · subst s2
              obtain ⟨x2, hx2⟩ : ∃ z, z = x.filter fun p => decide (p ≠ y.p) := ⟨_, rfl⟩
              obtain ⟨q2, hq2⟩ : ∃ z, z = x2.length := ⟨_, rfl⟩
              obtain ⟨r0, hr0⟩ : ∃ z, z = decide (y.p ∈ x) := ⟨_, rfl⟩
              have hr2 : Rising x2 := by rw [hx2]; exact rising_filter hrx _
              have hl2 : q2 ≤ q := by rw [hq2, hx2, ← hqx]; exact List.length_filter_le _ _
              have h1 := has_any Ax q cx x W.heap.size y.p W (OwnE.es prOk own1) (Nat.le_refl _) (by unfold maxLen; omega)
              have h2 := fun V h => rwithout_any Ax q cx x V.heap.size y.p V h (Nat.le_refl _) (by omega)
              have h3 := fun V h => sdrop_any b1 mg x y.p V h
              unfold MakesP at h2
              unfold DropsTo at h3
              rw [← hr0] at h1 h3
              rw [← hx2] at h2 h3
              rw [← hq2] at h2
              clear hx2 hq2 hr0
              go_wp2_with fail
              refine h1.mono ?_
              rintro e wa2 ⟨rfl, hb⟩
              clear h1 e0 e1 e2 e3
              have own2 := OwnE.later own1 hb
              have set2 := set1.later hb
              have act2 := hW8.later hb
              have bel2 := bel1.trans (hb.mono bel1.size)
              obtain ⟨e0, e1, e2, e3⟩ := act2.cells
              clear hb own1 set1 hW8 bel1
              go_wp2_with fail
              refine (h2 wa2 (OwnE.es prOk own2)).mono ?_
              rintro e wb2 ⟨A2, c2, rfl, ho3, hb⟩
              clear h2 e0 e1 e2 e3 own2
              have own3 : OwnP wb2 w.heap.size _ _ _ := OwnE.mono ho3 bel2.size
              have set3 := set2.later hb
              have act3 := act2.later hb
              have bel3 := bel2.trans (hb.mono bel2.size)
              obtain ⟨e0, e1, e2, e3⟩ := act3.cells
              clear hb set2 act2 bel2 ho3
              go_wp2_with fail
              refine (h3 wb2 set3).mono ?_
              rintro e wz ⟨rfl, mg2, hs2, ht, hmv⟩
              clear h3 e0 e1 e2 e3
              have ho2 := own3.turn set3 ht
              have hW8 := act3.turn set3 ht
              have hbz := bel3.trans (ht.below bel3.size hb1 hmg)
              have hm2 := hmv.base hmg bel3.size
              clear own3 set3 act3 bel3 ht hmv
              have tt : ∀ b : Bool, (b != b) = false := fun b => by simp
              go_wp2_with fail
              clear hW2
              have hlx := OwnE.len prOk ho2
              have hes := OwnE.es prOk ho2
              have n1 := fun W (hb : Below wz.heap.size wz W) => slen_any b1 mg2 x2 W (hs2.later hb)
              have n2 := fun W (hb : Below wz.heap.size wz W) => slist_any b1 mg2 x2 W (hs2.later hb) (by omega)
              have n3 := fun W (hb : Below wz.heap.size wz W) => shas_any b1 mg2 x2 y.p W (hs2.later hb)
              have n4 := fun W (hb : Below wz.heap.size wz W) => has_any A2 q2 c2 x2 wz.heap.size y.p W (hes.below hb) hb.size (by unfold maxLen; omega)
              rw [sortP_self hr2] at n2
              unfold MakesP at n2
              rw [hlx] at n1 n2
              have k1 := fun W (hb : Below wz.heap.size wz W) => act_cell hW8 hb
              generalize decide (y.p ∈ x2) = r at *
              refine wp_region_flow (by kernel_rfl) (by kernel_rfl) (by kernel_rfl) ?_
              refine flow_val rfl ?_
              apply Exists.intro
              apply And.intro
              · intro ρ w8 hr hf
                have r1 := hr.const
                have r2 := hr.func
                try simp [Oper.looksAt, Op.operands, Call.operands, tput, frameW, Act.eval] at hf
                go_simp
                try rfl
              refine flow_step (fun v _ => v = .int .i64 (q2 : Int)) rfl (fun _ _ _ h _ => h) ?_ ?_
              · intro ρ w8 hr hw hf
                have r2 := hr.func
                simp [Oper.looksAt, Op.operands, Call.operands, tput, frameW, Act.eval] at hf
                have CN := hide (n1 w8 hw)
                go_simp
                refine ⟨Below.refl _ _, (unhide CN).mono ?_⟩
                rintro e w7 ⟨rfl, rfl⟩
                exact ⟨_, rfl, Below.refl _ _, rfl⟩
              refine flow_val rfl ?_
              apply Exists.intro
              apply And.intro
              · intro ρ w8 hr hf
                have r1 := hr.const
                have r2 := hr.func
                try simp [Oper.looksAt, Op.operands, Call.operands, tput, frameW, Act.eval] at hf
                go_simp
                try rfl
              refine flow_val rfl ?_
              apply Exists.intro
              apply And.intro
              · intro ρ w8 hr hf
                have r1 := hr.const
                have r2 := hr.func
                try simp [Oper.looksAt, Op.operands, Call.operands, tput, frameW, Act.eval] at hf
                go_simp
                try rfl
              refine flow_val rfl ?_
              apply Exists.intro
              apply And.intro
              · intro ρ w8 hr hf
                have r1 := hr.const
                have r2 := hr.func
                try simp [Oper.looksAt, Op.operands, Call.operands, tput, frameW, Act.eval] at hf
                go_simp
                try rfl
              refine flow_val rfl ?_
              apply Exists.intro
              apply And.intro
              · intro ρ w8 hr hf
                have r1 := hr.const
                have r2 := hr.func
                try simp [Oper.looksAt, Op.operands, Call.operands, tput, frameW, Act.eval] at hf
                go_simp
                try rfl
              refine flow_yes_val 5 false 113 rfl rfl (fun v w8 h8 => by simpa [tput] using h8) ?_
              apply Exists.intro
              apply And.intro
              · intro ρ w8 hr hf
                have r1 := hr.const
                have r2 := hr.func
                try simp [Oper.looksAt, Op.operands, Call.operands, tput, frameW, Act.eval] at hf
                go_simp
                try rfl
              refine flow_yes (EsW prC q2 x2) 5 false 113 rfl rfl (fun v w8 h8 => by simpa [tput] using h8) (esW_steady _ _) ?_ ?_
              · intro ρ w8 hr hw hf
                have r2 := hr.func
                simp [Oper.looksAt, Op.operands, Call.operands, tput, frameW, Act.eval] at hf
                have CN := hide (n2 w8 hw)
                go_simp
                refine ⟨Below.refl _ _, (unhide CN).mono ?_⟩
                rintro e w7 ⟨A7, c7, rfl, ho7, hb7⟩
                exact ⟨_, rfl, hb7, A7, c7, w7.heap.size, rfl, OwnE.es prOk ho7, Nat.le_refl _⟩
              refine flow_yes_val 5 false 113 rfl rfl (fun v w8 h8 => by simpa [tput] using h8) ?_
              apply Exists.intro
              apply And.intro
              · intro ρ w8 hr hf
                have r1 := hr.const
                have r2 := hr.func
                try simp [Oper.looksAt, Op.operands, Call.operands, tput, frameW, Act.eval] at hf
                go_simp
                try rfl
              refine flow_yes (fun v _ => v = .bool true) 5 false 113 rfl rfl (fun v w8 h8 => by simpa [tput] using h8) (fun _ _ _ h _ => h) ?_ ?_
              · intro ρ w8 hr hw hf
                have r2 := hr.func
                simp [Oper.looksAt, Op.operands, Call.operands, tput, frameW, Act.eval] at hf
                obtain ⟨⟨A7, c7, B7, hf1, he7, hB7⟩, hf2⟩ := hf
                have CN := hide (samep_eq A7 A2 q2 q2 c7 c2 x2 x2 B7 wz.heap.size w8 he7 (hes.below hw) (by unfold maxLen; omega) rfl)
                go_simp
                refine ⟨Below.refl _ _, (unhide CN).mono ?_⟩
                rintro e w7 ⟨rfl, hd7⟩
                exact ⟨_, rfl, drawn_below hd7, rfl⟩
              refine flow_yes_val 5 false 113 rfl rfl (fun v w8 h8 => by simpa [tput] using h8) ?_
              apply Exists.intro
              apply And.intro
              · intro ρ w8 hr hf
                have r1 := hr.const
                have r2 := hr.func
                try simp [Oper.looksAt, Op.operands, Call.operands, tput, frameW, Act.eval] at hf
                go_simp
                try rfl
              refine flow_val rfl ?_
              apply Exists.intro
              apply And.intro
              · intro ρ w8 hr hf
                have r1 := hr.const
                have r2 := hr.func
                try simp [Oper.looksAt, Op.operands, Call.operands, tput, frameW, Act.eval] at hf
                go_simp
                try rfl
              refine flow_val rfl ?_
              apply Exists.intro
              apply And.intro
              · intro ρ w8 hr hf
                have r1 := hr.const
                have r2 := hr.func
                try simp [Oper.looksAt, Op.operands, Call.operands, tput, frameW, Act.eval] at hf
                go_simp
                try rfl
              refine flow_yes_val 12 false 120 rfl rfl (fun v w8 h8 => by simpa [tput] using h8) ?_
              apply Exists.intro
              apply And.intro
              · intro ρ w8 hr hf
                have r1 := hr.const
                have r2 := hr.func
                try simp [Oper.looksAt, Op.operands, Call.operands, tput, frameW, Act.eval] at hf
                go_simp
                try rfl
              refine flow_yes_val 12 false 120 rfl rfl (fun v w8 h8 => by simpa [tput] using h8) ?_
              apply Exists.intro
              apply And.intro
              · intro ρ w8 hr hf
                have r1 := hr.const
                have r2 := hr.func
                try simp [Oper.looksAt, Op.operands, Call.operands, tput, frameW, Act.eval] at hf
                go_simp
                try rfl
              refine flow_yes_pure (.agg #[.int .u16 (y.p.i : Int), .int .u32 (y.p.k : Int)]) 12 false 120 rfl rfl (fun v w8 h8 => by simpa [tput] using h8) ?_ ?_
              · intro ρ w8 hr hw hf
                have h8 := (k1 w8 hw).2.1
                have h9 := (k1 w8 hw).2.2.1
                try simp [Oper.looksAt, Op.operands, Call.operands, tput, frameW, Act.eval] at hf
                go_simp
              refine flow_yes (fun v _ => v = .bool r) 12 false 120 rfl rfl (fun v w8 h8 => by simpa [tput] using h8) (fun _ _ _ h _ => h) ?_ ?_
              · intro ρ w8 hr hw hf
                have r2 := hr.func
                simp [Oper.looksAt, Op.operands, Call.operands, tput, frameW, Act.eval] at hf
                have CN := hide (n3 w8 hw)
                go_simp
                refine ⟨Below.refl _ _, (unhide CN).mono ?_⟩
                rintro e w7 ⟨rfl, hb7⟩
                exact ⟨_, rfl, hb7, rfl⟩
              refine flow_yes_val 12 false 120 rfl rfl (fun v w8 h8 => by simpa [tput] using h8) ?_
              apply Exists.intro
              apply And.intro
              · intro ρ w8 hr hf
                have r1 := hr.const
                have r2 := hr.func
                try simp [Oper.looksAt, Op.operands, Call.operands, tput, frameW, Act.eval] at hf
                go_simp
                try rfl
              refine flow_yes_val 12 false 120 rfl rfl (fun v w8 h8 => by simpa [tput] using h8) ?_
              apply Exists.intro
              apply And.intro
              · intro ρ w8 hr hf
                have r1 := hr.const
                have r2 := hr.func
                try simp [Oper.looksAt, Op.operands, Call.operands, tput, frameW, Act.eval] at hf
                go_simp
                try rfl
              refine flow_yes_pure (.agg #[.int .u16 (y.p.i : Int), .int .u32 (y.p.k : Int)]) 12 false 120 rfl rfl (fun v w8 h8 => by simpa [tput] using h8) ?_ ?_
              · intro ρ w8 hr hw hf
                have h8 := (k1 w8 hw).2.1
                have h9 := (k1 w8 hw).2.2.1
                try simp [Oper.looksAt, Op.operands, Call.operands, tput, frameW, Act.eval] at hf
                go_simp
              refine flow_yes (fun v _ => v = .bool r) 12 false 120 rfl rfl (fun v w8 h8 => by simpa [tput] using h8) (fun _ _ _ h _ => h) ?_ ?_
              · intro ρ w8 hr hw hf
                have r2 := hr.func
                simp [Oper.looksAt, Op.operands, Call.operands, tput, frameW, Act.eval] at hf
                have CN := hide (n4 w8 hw)
                go_simp
                refine ⟨Below.refl _ _, (unhide CN).mono ?_⟩
                rintro e w7 ⟨rfl, hb7⟩
                exact ⟨_, rfl, hb7, rfl⟩
              refine flow_yes_val 12 false 120 rfl rfl (fun v w8 h8 => by simpa [tput] using h8) ?_
              apply Exists.intro
              apply And.intro
              · intro ρ w8 hr hf
                have r1 := hr.const
                have r2 := hr.func
                try simp [Oper.looksAt, Op.operands, Call.operands, tput, frameW, Act.eval] at hf
                go_simp
                try rfl
              refine flow_val rfl ?_
              apply Exists.intro
              apply And.intro
              · intro ρ w8 hr hf
                have r1 := hr.const
                have r2 := hr.func
                try simp [Oper.looksAt, Op.operands, Call.operands, tput, frameW, Act.eval] at hf
                go_simp
                try rfl
              refine flow_nil ?_
              intro f w9 hb9 hf
              have g0 := hf 0; simp [tput, frameW, Act.eval] at g0
              have g1 := hf 1; simp [tput, frameW, Act.eval] at g1
              have g2 := hf 2; simp [tput, frameW, Act.eval] at g2
              have g3 := hf 3; simp [tput, frameW, Act.eval] at g3
              have g5 := hf 5; simp [tput, frameW, Act.eval] at g5
              have g6 := hf 6; simp [tput, frameW, Act.eval] at g6
              have g7 := hf 7; simp [tput, frameW, Act.eval] at g7
              have g11 := hf 11; simp [tput, frameW, Act.eval] at g11
              have g12 := hf 12; simp [tput, frameW, Act.eval] at g12
              have g13 := hf 13; simp [tput, frameW, Act.eval] at g13
              have g14 := hf 14; simp [tput, frameW, Act.eval] at g14
              have g15 := hf 15; simp [tput, frameW, Act.eval] at g15
              have g16 := hf 16; simp [tput, frameW, Act.eval] at g16
              have g17 := hf 17; simp [tput, frameW, Act.eval] at g17
              have g18 := hf 18; simp [tput, frameW, Act.eval] at g18
              have g19 := hf 19; simp [tput, frameW, Act.eval] at g19
              have g20 := hf 20; simp [tput, frameW, Act.eval] at g20
              have g21 := hf 21; simp [tput, frameW, Act.eval] at g21
              have g22 := hf 22; simp [tput, frameW, Act.eval] at g22
              have g130 := hf 130; simp [tput, frameW, Act.eval] at g130
              have g131 := hf 131; simp [tput, frameW, Act.eval] at g131
              rw [show frameOf f _ _ = ⟨#[f 0, f 1, f 2, f 3, f 4, f 5, f 6, f 7, f 8, f 9, f 10, f 11, f 12, f 13, f 14, f 15, f 16, f 17, f 18, f 19, f 20, f 21, f 22, f 23, f 24, f 25, f 26, f 27, f 28, f 29, f 30, f 31, f 32, f 33, f 34, f 35, f 36, f 37, f 38, f 39, f 40, f 41, f 42, f 43, f 44, f 45, f 46, f 47, f 48, f 49, f 50, f 51, f 52, f 53, f 54, f 55, f 56, f 57, f 58, f 59, f 60, f 61, f 62, f 63, f 64, f 65, f 66, f 67, f 68, f 69, f 70, f 71, f 72, f 73, f 74, f 75, f 76, f 77, f 78, f 79, f 80, f 81, f 82, f 83, f 84, f 85, f 86, f 87, f 88, f 89, f 90, f 91, f 92, f 93, f 94, f 95, f 96, f 97, f 98, f 99, f 100, f 101, f 102, f 103, f 104, f 105, f 106, f 107, f 108, f 109, f 110, f 111, f 112, f 113, f 114, f 115, f 116, f 117, f 118, f 119, f 120, f 121, f 122, f 123, f 124, f 125, f 126, f 127, f 128, f 129, f 130, f 131], []⟩ from rfl, g0, g1, g2, g3, g5, g6, g7, g11, g12, g13, g14, g15, g16, g17, g18, g19, g20, g21, g22, g130, g131]
              have hR := hide (And.intro (OwnE.later ho2 hb9) (And.intro (hs2.later hb9) (hbz.trans (hb9.mono hbz.size))))
              clear hf n1 n2 n3 n4 k1 hb9 hes ho2 hs2 hW8 hbz
              go_wp2
              go_roundw
              case rel => exact ⟨i + 1, q2, A2, c2, x2, mg2, by omega, by omega, by go_num, rfl, by omega, hr2, hR.out.1, hR.out.2.1, hm2, hR.out.2.2⟩
              case measure => simp [intOf]; omega
            · have t2 : ((r5 : Int) == 2) = false := by simp; omega
              by_cases s3 : r5 = 3
              · subst s3
                obtain ⟨i0, hi0, hz0, hz1, hz2⟩ := info_parts info_pid
                have hq9 : q ≤ 5000 := by omega
                go_wp2_with fail
                refine wp_region_flow_tail 5 (by kernel_rfl) (by kernel_rfl) (by kernel_rfl) ?_
                simp only [List.take_succ_cons, List.take_zero, List.drop_succ_cons, List.drop_zero]
                refine flow_step (LitW 32 prC 2 w.heap.size) rfl (litW_steady _) ?_ ?_
                · intro ρ w8 hr hw hf
                  try simp [Oper.looksAt, Op.operands, Call.operands, tput, frameW, Act.eval] at hf
                  go_simp
                  exact ⟨(Below.refl _ _).alloc (Nat.le_refl _) _, litW_made (Nat.le_trans bel1.size hw.size)⟩
                refine flow_step (EsW prC q x) rfl (esW_steady _ _) ?_ ?_
                · intro ρ w8 hr hw hf
                  try simp [Oper.looksAt, Op.operands, Call.operands, tput, frameW, Act.eval] at hf
                  go_simp
                  exact ⟨Below.refl _ _, Ax, cx, W.heap.size, rfl, (OwnE.es prOk own1).below hw, hw.size⟩
                refine flow_step (OwnW 32 prC 2 w.heap.size q x) rfl (ownW_steady _ _ _) ?_ ?_
                · intro ρ w8 hr hw hf
                  simp [Oper.looksAt, Op.operands, Call.operands, tput, frameW, Act.eval] at hf
                  generalize hu : ρ (.tmp 77) = u8 at hf
                  generalize hv : ρ (.tmp 78) = u9 at hf
                  obtain ⟨v7, w7, hrun, ho7, hb7⟩ := lit_append (P := Try.prog) (ty := 22) Try.underlying22 hi0 hz0 hz1 hz2 rfl prOk hf.1 hf.2 (by unfold maxLen; omega) (by omega) (Nat.le_trans bel1.size hw.size)
                  have HO := hide (And.intro hb7 ho7)
                  clear hf hb7 ho7
                  simp only [execOp, resolve, invoke, builtin, Sem.run_bind, Sem.run_pure, Result.andThen_ok, List.map_toArray, List.map_cons, List.map_nil, hu, hv, hrun]
                  exact unhide HO
                refine flow_val rfl ?_
                apply Exists.intro
                apply And.intro
                · intro ρ w8 hr hf
                  have r1 := hr.const
                  have r2 := hr.func
                  try simp [Oper.looksAt, Op.operands, Call.operands, tput, frameW, Act.eval] at hf
                  go_simp
                  try rfl
                refine flow_pure (.slice y.A y.m y.c) rfl ?_ ?_
                · intro ρ w8 hr hw hf
                  have h9 := (act_cell hW8 hw).2.2.2
                  try simp [Oper.looksAt, Op.operands, Call.operands, tput, frameW, Act.eval] at hf
                  go_simp

                refine flow_nil ?_
                intro f w9 hb9 hf
                have hown9 : OwnP w9 w.heap.size (f 79) q x := by have h := hf 79; simpa [tput, OwnW] using h
                obtain ⟨A9, c9, e9⟩ := OwnE.shape hown9
                rw [e9] at hown9
                have g0 := hf 0; simp [tput, frameW, Act.eval] at g0
                have g1 := hf 1; simp [tput, frameW, Act.eval] at g1
                have g2 := hf 2; simp [tput, frameW, Act.eval] at g2
                have g3 := hf 3; simp [tput, frameW, Act.eval] at g3
                have g5 := hf 5; simp [tput, frameW, Act.eval] at g5
                have g6 := hf 6; simp [tput, frameW, Act.eval] at g6
                have g7 := hf 7; simp [tput, frameW, Act.eval] at g7
                have g8 := hf 8; simp [tput, frameW, Act.eval] at g8
                have g9 := hf 9; simp [tput, frameW, Act.eval] at g9
                have g11 := hf 11; simp [tput, frameW, Act.eval] at g11
                have g12 := hf 12; simp [tput, frameW, Act.eval] at g12
                have g13 := hf 13; simp [tput, frameW, Act.eval] at g13
                have g14 := hf 14; simp [tput, frameW, Act.eval] at g14
                have g15 := hf 15; simp [tput, frameW, Act.eval] at g15
                have g16 := hf 16; simp [tput, frameW, Act.eval] at g16
                have g17 := hf 17; simp [tput, frameW, Act.eval] at g17
                have g18 := hf 18; simp [tput, frameW, Act.eval] at g18
                have g19 := hf 19; simp [tput, frameW, Act.eval] at g19
                have g20 := hf 20; simp [tput, frameW, Act.eval] at g20
                have g21 := hf 21; simp [tput, frameW, Act.eval] at g21
                have g22 := hf 22; simp [tput, frameW, Act.eval] at g22
                have g81 := hf 81; simp [tput, frameW, Act.eval] at g81
                have g131 := hf 131; simp [tput, frameW, Act.eval] at g131
                rw [show frameOf f _ _ = ⟨#[f 0, f 1, f 2, f 3, f 4, f 5, f 6, f 7, f 8, f 9, f 10, f 11, f 12, f 13, f 14, f 15, f 16, f 17, f 18, f 19, f 20, f 21, f 22, f 23, f 24, f 25, f 26, f 27, f 28, f 29, f 30, f 31, f 32, f 33, f 34, f 35, f 36, f 37, f 38, f 39, f 40, f 41, f 42, f 43, f 44, f 45, f 46, f 47, f 48, f 49, f 50, f 51, f 52, f 53, f 54, f 55, f 56, f 57, f 58, f 59, f 60, f 61, f 62, f 63, f 64, f 65, f 66, f 67, f 68, f 69, f 70, f 71, f 72, f 73, f 74, f 75, f 76, f 77, f 78, f 79, f 80, f 81, f 82, f 83, f 84, f 85, f 86, f 87, f 88, f 89, f 90, f 91, f 92, f 93, f 94, f 95, f 96, f 97, f 98, f 99, f 100, f 101, f 102, f 103, f 104, f 105, f 106, f 107, f 108, f 109, f 110, f 111, f 112, f 113, f 114, f 115, f 116, f 117, f 118, f 119, f 120, f 121, f 122, f 123, f 124, f 125, f 126, f 127, f 128, f 129, f 130, f 131], []⟩ from rfl, g0, g1, g2, g3, g5, g6, g7, g8, g9, g11, g12, g13, g14, g15, g16, g17, g18, g19, g20, g21, g22, g81, g131, e9]
                have bel9 := bel1.trans (hb9.mono bel1.size)
                have set9 := set1.later hb9
                have act9 := hW8.later hb9
                clear hf e9 g0 g1 g2 g3 g5 g6 g7 g8 g9 g11 g12 g13 g14 g15 g16 g17 g18 g19 g20 g21 g22 g81 g131 own1 set1 hW8 hb9 e0 e1 e2 e3 bel1
                obtain ⟨x2, hx2⟩ : ∃ z, z = sortP (x ++ y.l) := ⟨_, rfl⟩
                obtain ⟨q2, hq2⟩ : ∃ z, z = x2.length := ⟨_, rfl⟩
                have hr2 : Rising x2 := by rw [hx2]; exact sortP_rising _
                have hqf : (y.l.foldl dedS x).length = q2 := by rw [hq2, hx2]; exact (fold_sort x y.l (rising_nodup hrx)).1
                have hmf := hide (show ∀ p, p ∈ x2 ↔ p ∈ y.l.foldl dedS x from by rw [hx2]; exact (fold_sort x y.l (rising_nodup hrx)).2)
                have hl2 : q2 ≤ q + y.m := by
                  have h := sortP_len (x ++ y.l)
                  rw [List.length_append, hqx, hyl.len, ← hx2, ← hq2] at h
                  exact h
                have h1 := fun A3 c3 V h => rsort_any A3 (q + y.m) c3 (x ++ y.l) V.heap.size V h (Nat.le_refl _) (by omega)
                unfold MakesP at h1
                rw [← hx2, ← hq2] at h1
                clear hx2 hq2
                have h2 := fun V h hb => sunion_any b1 mg x y.A y.m y.c y.l w.heap.size V h (hyl.below hb) hb.size hb1 hmg (by omega) (by omega)
                unfold UnitesTo at h2
                rw [hqf, hqx] at h2
                go_wp2_with (at_builtin; refine wp_append_e _ rfl (.tmp 79) (.tmp 81) 22 rfl 32 i0 _ 8 Try.underlying22 hi0 hz0 hz1 hz2 rfl prOk w.heap.size q _ x rfl hown9 w.heap.size _ y.m y.c y.l rfl (hyl.below bel9) (by unfold maxLen; omega) (by omega) w.heap.size w bel9 (Nat.le_refl _) bel9.size ?_; intro A3 c3 w3 r1 r2 r3 r4; refine Hid.out ?_)
                refine Lib.hid ?_
                have own3 : OwnP w3 w.heap.size (.slice A3 (q + y.m) c3) (q + y.m) (x ++ y.l) := r1
                have set3 := SetAt.row set9 hown9 r4
                have act3 := act9.row hown9 r4
                have bel3 : Below w.heap.size w w3 := r2
                clear r1 r2 r3 r4 hown9 set9 act9
                go_wp2_with fail
                refine (h1 A3 c3 w3 (OwnE.es prOk own3)).mono ?_
                rintro e wy ⟨A2, c2, rfl, ho5, hb⟩
                have own5 : OwnP wy w.heap.size _ _ _ := OwnE.mono ho5 bel3.size
                have set5 := set3.later hb
                have act5 := act3.later hb
                have bel5 := bel3.trans (hb.mono bel3.size)
                obtain ⟨e0, e1, e2, e3⟩ := act5.cells
                clear h1 own3 set3 act3 bel3 ho5 hb
                go_wp2_with fail
                refine (h2 wy set5 bel5).mono ?_
                rintro e wz ⟨q0, rfl, hq0, mg2, hs2, ht, hmv⟩
                clear h2 e0 e1 e2 e3
                have ho2 := own5.turn set5 ht
                have hW8 := act5.turn set5 ht
                have hbz := bel5.trans (ht.below bel5.size hb1 hmg)
                have hm2 := hmv.base hmg bel5.size
                have hs2 : SetAt wz b1 mg2 x2 := hs2.same (rising_nodup hr2) hmf.out
                clear own5 set5 act5 bel5 ht hmv
                have tt : ((q0 : Int) != (q2 : Int) - (q : Int)) = false := by simp; omega
                have hq8 : q ≤ q2 := by omega
                clear hq0 hqf
                go_wp2_with fail
                clear hW2
                have hlx := OwnE.len prOk ho2
                have hes := OwnE.es prOk ho2
                have n1 := fun W (hb : Below wz.heap.size wz W) => slen_any b1 mg2 x2 W (hs2.later hb)
                have n2 := fun W (hb : Below wz.heap.size wz W) => slist_any b1 mg2 x2 W (hs2.later hb) (by omega)
                have n3 := fun W (hb : Below wz.heap.size wz W) => shas_any b1 mg2 x2 y.p W (hs2.later hb)
                have n4 := fun W (hb : Below wz.heap.size wz W) => has_any A2 q2 c2 x2 wz.heap.size y.p W (hes.below hb) hb.size (by unfold maxLen; omega)
                rw [sortP_self hr2] at n2
                unfold MakesP at n2
                rw [hlx] at n1 n2
                have k1 := fun W (hb : Below wz.heap.size wz W) => act_cell hW8 hb
                generalize decide (y.p ∈ x2) = r at *
                refine wp_region_flow (by kernel_rfl) (by kernel_rfl) (by kernel_rfl) ?_
                refine flow_val rfl ?_
                apply Exists.intro
                apply And.intro
                · intro ρ w8 hr hf
                  have r1 := hr.const
                  have r2 := hr.func
                  try simp [Oper.looksAt, Op.operands, Call.operands, tput, frameW, Act.eval] at hf
                  go_simp
                  try rfl
                refine flow_step (fun v _ => v = .int .i64 (q2 : Int)) rfl (fun _ _ _ h _ => h) ?_ ?_
                · intro ρ w8 hr hw hf
                  have r2 := hr.func
                  simp [Oper.looksAt, Op.operands, Call.operands, tput, frameW, Act.eval] at hf
                  have CN := hide (n1 w8 hw)
                  go_simp
                  refine ⟨Below.refl _ _, (unhide CN).mono ?_⟩
                  rintro e w7 ⟨rfl, rfl⟩
                  exact ⟨_, rfl, Below.refl _ _, rfl⟩
                refine flow_val rfl ?_
                apply Exists.intro
                apply And.intro
                · intro ρ w8 hr hf
                  have r1 := hr.const
                  have r2 := hr.func
                  try simp [Oper.looksAt, Op.operands, Call.operands, tput, frameW, Act.eval] at hf
                  go_simp
                  try rfl
                refine flow_val rfl ?_
                apply Exists.intro
                apply And.intro
                · intro ρ w8 hr hf
                  have r1 := hr.const
                  have r2 := hr.func
                  try simp [Oper.looksAt, Op.operands, Call.operands, tput, frameW, Act.eval] at hf
                  go_simp
                  try rfl
                refine flow_val rfl ?_
                apply Exists.intro
                apply And.intro
                · intro ρ w8 hr hf
                  have r1 := hr.const
                  have r2 := hr.func
                  try simp [Oper.looksAt, Op.operands, Call.operands, tput, frameW, Act.eval] at hf
                  go_simp
                  try rfl
                refine flow_val rfl ?_
                apply Exists.intro
                apply And.intro
                · intro ρ w8 hr hf
                  have r1 := hr.const
                  have r2 := hr.func
                  try simp [Oper.looksAt, Op.operands, Call.operands, tput, frameW, Act.eval] at hf
                  go_simp
                  try rfl
                refine flow_yes_val 5 false 113 rfl rfl (fun v w8 h8 => by simpa [tput] using h8) ?_
                apply Exists.intro
                apply And.intro
                · intro ρ w8 hr hf
                  have r1 := hr.const
                  have r2 := hr.func
                  try simp [Oper.looksAt, Op.operands, Call.operands, tput, frameW, Act.eval] at hf
                  go_simp
                  try rfl
                refine flow_yes (EsW prC q2 x2) 5 false 113 rfl rfl (fun v w8 h8 => by simpa [tput] using h8) (esW_steady _ _) ?_ ?_
                · intro ρ w8 hr hw hf
                  have r2 := hr.func
                  simp [Oper.looksAt, Op.operands, Call.operands, tput, frameW, Act.eval] at hf
                  have CN := hide (n2 w8 hw)
                  go_simp
                  refine ⟨Below.refl _ _, (unhide CN).mono ?_⟩
                  rintro e w7 ⟨A7, c7, rfl, ho7, hb7⟩
                  exact ⟨_, rfl, hb7, A7, c7, w7.heap.size, rfl, OwnE.es prOk ho7, Nat.le_refl _⟩
                refine flow_yes_val 5 false 113 rfl rfl (fun v w8 h8 => by simpa [tput] using h8) ?_
                apply Exists.intro
                apply And.intro
                · intro ρ w8 hr hf
                  have r1 := hr.const
                  have r2 := hr.func
                  try simp [Oper.looksAt, Op.operands, Call.operands, tput, frameW, Act.eval] at hf
                  go_simp
                  try rfl
                refine flow_yes (fun v _ => v = .bool true) 5 false 113 rfl rfl (fun v w8 h8 => by simpa [tput] using h8) (fun _ _ _ h _ => h) ?_ ?_
                · intro ρ w8 hr hw hf
                  have r2 := hr.func
                  simp [Oper.looksAt, Op.operands, Call.operands, tput, frameW, Act.eval] at hf
                  obtain ⟨⟨A7, c7, B7, hf1, he7, hB7⟩, hf2⟩ := hf
                  have CN := hide (samep_eq A7 A2 q2 q2 c7 c2 x2 x2 B7 wz.heap.size w8 he7 (hes.below hw) (by unfold maxLen; omega) rfl)
                  go_simp
                  refine ⟨Below.refl _ _, (unhide CN).mono ?_⟩
                  rintro e w7 ⟨rfl, hd7⟩
                  exact ⟨_, rfl, drawn_below hd7, rfl⟩
                refine flow_yes_val 5 false 113 rfl rfl (fun v w8 h8 => by simpa [tput] using h8) ?_
                apply Exists.intro
                apply And.intro
                · intro ρ w8 hr hf
                  have r1 := hr.const
                  have r2 := hr.func
                  try simp [Oper.looksAt, Op.operands, Call.operands, tput, frameW, Act.eval] at hf
                  go_simp
                  try rfl
                refine flow_val rfl ?_
                apply Exists.intro
                apply And.intro
                · intro ρ w8 hr hf
                  have r1 := hr.const
                  have r2 := hr.func
                  try simp [Oper.looksAt, Op.operands, Call.operands, tput, frameW, Act.eval] at hf
                  go_simp
                  try rfl
                refine flow_val rfl ?_
                apply Exists.intro
                apply And.intro
                · intro ρ w8 hr hf
                  have r1 := hr.const
                  have r2 := hr.func
                  try simp [Oper.looksAt, Op.operands, Call.operands, tput, frameW, Act.eval] at hf
                  go_simp
                  try rfl
                refine flow_yes_val 12 false 120 rfl rfl (fun v w8 h8 => by simpa [tput] using h8) ?_
                apply Exists.intro
                apply And.intro
                · intro ρ w8 hr hf
                  have r1 := hr.const
                  have r2 := hr.func
                  try simp [Oper.looksAt, Op.operands, Call.operands, tput, frameW, Act.eval] at hf
                  go_simp
                  try rfl
                refine flow_yes_val 12 false 120 rfl rfl (fun v w8 h8 => by simpa [tput] using h8) ?_
                apply Exists.intro
                apply And.intro
                · intro ρ w8 hr hf
                  have r1 := hr.const
                  have r2 := hr.func
                  try simp [Oper.looksAt, Op.operands, Call.operands, tput, frameW, Act.eval] at hf
                  go_simp
                  try rfl
                refine flow_yes_pure (.agg #[.int .u16 (y.p.i : Int), .int .u32 (y.p.k : Int)]) 12 false 120 rfl rfl (fun v w8 h8 => by simpa [tput] using h8) ?_ ?_
                · intro ρ w8 hr hw hf
                  have h8 := (k1 w8 hw).2.1
                  have h9 := (k1 w8 hw).2.2.1
                  try simp [Oper.looksAt, Op.operands, Call.operands, tput, frameW, Act.eval] at hf
                  go_simp
                refine flow_yes (fun v _ => v = .bool r) 12 false 120 rfl rfl (fun v w8 h8 => by simpa [tput] using h8) (fun _ _ _ h _ => h) ?_ ?_
                · intro ρ w8 hr hw hf
                  have r2 := hr.func
                  simp [Oper.looksAt, Op.operands, Call.operands, tput, frameW, Act.eval] at hf
                  have CN := hide (n3 w8 hw)
                  go_simp
                  refine ⟨Below.refl _ _, (unhide CN).mono ?_⟩
                  rintro e w7 ⟨rfl, hb7⟩
                  exact ⟨_, rfl, hb7, rfl⟩
                refine flow_yes_val 12 false 120 rfl rfl (fun v w8 h8 => by simpa [tput] using h8) ?_
                apply Exists.intro
                apply And.intro
                · intro ρ w8 hr hf
                  have r1 := hr.const
                  have r2 := hr.func
                  try simp [Oper.looksAt, Op.operands, Call.operands, tput, frameW, Act.eval] at hf
                  go_simp
                  try rfl
                refine flow_yes_val 12 false 120 rfl rfl (fun v w8 h8 => by simpa [tput] using h8) ?_
                apply Exists.intro
                apply And.intro
                · intro ρ w8 hr hf
                  have r1 := hr.const
                  have r2 := hr.func
                  try simp [Oper.looksAt, Op.operands, Call.operands, tput, frameW, Act.eval] at hf
                  go_simp
                  try rfl
                refine flow_yes_pure (.agg #[.int .u16 (y.p.i : Int), .int .u32 (y.p.k : Int)]) 12 false 120 rfl rfl (fun v w8 h8 => by simpa [tput] using h8) ?_ ?_
                · intro ρ w8 hr hw hf
                  have h8 := (k1 w8 hw).2.1
                  have h9 := (k1 w8 hw).2.2.1
                  try simp [Oper.looksAt, Op.operands, Call.operands, tput, frameW, Act.eval] at hf
                  go_simp
                refine flow_yes (fun v _ => v = .bool r) 12 false 120 rfl rfl (fun v w8 h8 => by simpa [tput] using h8) (fun _ _ _ h _ => h) ?_ ?_
                · intro ρ w8 hr hw hf
                  have r2 := hr.func
                  simp [Oper.looksAt, Op.operands, Call.operands, tput, frameW, Act.eval] at hf
                  have CN := hide (n4 w8 hw)
                  go_simp
                  refine ⟨Below.refl _ _, (unhide CN).mono ?_⟩
                  rintro e w7 ⟨rfl, hb7⟩
                  exact ⟨_, rfl, hb7, rfl⟩
                refine flow_yes_val 12 false 120 rfl rfl (fun v w8 h8 => by simpa [tput] using h8) ?_
                apply Exists.intro
                apply And.intro
                · intro ρ w8 hr hf
                  have r1 := hr.const
                  have r2 := hr.func
                  try simp [Oper.looksAt, Op.operands, Call.operands, tput, frameW, Act.eval] at hf
                  go_simp
                  try rfl
                refine flow_val rfl ?_
                apply Exists.intro
                apply And.intro
                · intro ρ w8 hr hf
                  have r1 := hr.const
                  have r2 := hr.func
                  try simp [Oper.looksAt, Op.operands, Call.operands, tput, frameW, Act.eval] at hf
                  go_simp
                  try rfl
                refine flow_nil ?_
                intro f w9 hb9 hf
                have g0 := hf 0; simp [tput, frameW, Act.eval] at g0
                have g1 := hf 1; simp [tput, frameW, Act.eval] at g1
                have g2 := hf 2; simp [tput, frameW, Act.eval] at g2
                have g3 := hf 3; simp [tput, frameW, Act.eval] at g3
                have g5 := hf 5; simp [tput, frameW, Act.eval] at g5
                have g6 := hf 6; simp [tput, frameW, Act.eval] at g6
                have g7 := hf 7; simp [tput, frameW, Act.eval] at g7
                have g11 := hf 11; simp [tput, frameW, Act.eval] at g11
                have g12 := hf 12; simp [tput, frameW, Act.eval] at g12
                have g13 := hf 13; simp [tput, frameW, Act.eval] at g13
                have g14 := hf 14; simp [tput, frameW, Act.eval] at g14
                have g15 := hf 15; simp [tput, frameW, Act.eval] at g15
                have g16 := hf 16; simp [tput, frameW, Act.eval] at g16
                have g17 := hf 17; simp [tput, frameW, Act.eval] at g17
                have g18 := hf 18; simp [tput, frameW, Act.eval] at g18
                have g19 := hf 19; simp [tput, frameW, Act.eval] at g19
                have g20 := hf 20; simp [tput, frameW, Act.eval] at g20
                have g21 := hf 21; simp [tput, frameW, Act.eval] at g21
                have g22 := hf 22; simp [tput, frameW, Act.eval] at g22
                have g130 := hf 130; simp [tput, frameW, Act.eval] at g130
                have g131 := hf 131; simp [tput, frameW, Act.eval] at g131
                rw [show frameOf f _ _ = ⟨#[f 0, f 1, f 2, f 3, f 4, f 5, f 6, f 7, f 8, f 9, f 10, f 11, f 12, f 13, f 14, f 15, f 16, f 17, f 18, f 19, f 20, f 21, f 22, f 23, f 24, f 25, f 26, f 27, f 28, f 29, f 30, f 31, f 32, f 33, f 34, f 35, f 36, f 37, f 38, f 39, f 40, f 41, f 42, f 43, f 44, f 45, f 46, f 47, f 48, f 49, f 50, f 51, f 52, f 53, f 54, f 55, f 56, f 57, f 58, f 59, f 60, f 61, f 62, f 63, f 64, f 65, f 66, f 67, f 68, f 69, f 70, f 71, f 72, f 73, f 74, f 75, f 76, f 77, f 78, f 79, f 80, f 81, f 82, f 83, f 84, f 85, f 86, f 87, f 88, f 89, f 90, f 91, f 92, f 93, f 94, f 95, f 96, f 97, f 98, f 99, f 100, f 101, f 102, f 103, f 104, f 105, f 106, f 107, f 108, f 109, f 110, f 111, f 112, f 113, f 114, f 115, f 116, f 117, f 118, f 119, f 120, f 121, f 122, f 123, f 124, f 125, f 126, f 127, f 128, f 129, f 130, f 131], []⟩ from rfl, g0, g1, g2, g3, g5, g6, g7, g11, g12, g13, g14, g15, g16, g17, g18, g19, g20, g21, g22, g130, g131]
                have hR := hide (And.intro (OwnE.later ho2 hb9) (And.intro (hs2.later hb9) (hbz.trans (hb9.mono hbz.size))))
                clear hf n1 n2 n3 n4 k1 hb9 hes ho2 hs2 hW8 hbz
                go_wp2
                go_roundw
                case rel => exact ⟨i + 1, q2, A2, c2, x2, mg2, by omega, by omega, by go_num, rfl, by omega, hr2, hR.out.1, hR.out.2.1, hm2, hR.out.2.2⟩
                case measure => simp [intOf]; omega
              · have t3 : ((r5 : Int) == 3) = false := by simp; omega
                by_cases s4 : r5 = 4
                · subst s4
                  obtain ⟨x2, hx2⟩ : ∃ z, z = x.filter fun p => decide (p ∈ y.l) := ⟨_, rfl⟩
                  obtain ⟨q2, hq2⟩ : ∃ z, z = x2.length := ⟨_, rfl⟩
                  have hr2 : Rising x2 := by rw [hx2]; exact rising_filter hrx _
                  have hl2 : q2 ≤ q := by rw [hq2, hx2, ← hqx]; exact List.length_filter_le _ _
                  have h1 := rcommon_any Ax q cx x W.heap.size y.A y.m y.c y.l w.heap.size W (OwnE.es prOk own1) (Nat.le_refl _) (hyl.below bel1) bel1.size (by omega) (by omega)
                  have h2 := fun V h hb => skeep_any b1 mg x y.A y.m y.c y.l w.heap.size V h (hyl.below hb) hb.size (by omega) (by omega)
                  unfold MakesP at h1
                  unfold KeepsTo at h2
                  rw [← hx2] at h1 h2
                  rw [← hq2] at h1 h2
                  rw [hqx] at h2
                  clear hx2 hq2
                  go_wp2_with fail
                  refine h1.mono ?_
                  rintro e wa2 ⟨A2, c2, rfl, ho3, hb⟩
                  clear h1 e0 e1 e2 e3
                  have own2 : OwnP wa2 w.heap.size _ _ _ := OwnE.mono ho3 bel1.size
                  have set2 := set1.later hb
                  have act2 := hW8.later hb
                  have bel2 := bel1.trans (hb.mono bel1.size)
                  obtain ⟨e0, e1, e2, e3⟩ := act2.cells
                  clear hb own1 set1 hW8 bel1 ho3
                  go_wp2_with fail
                  refine (h2 wa2 set2 bel2).mono ?_
                  rintro e wz ⟨q0, rfl, hq0, hs2, ht⟩
                  clear h2 e0 e1 e2 e3
                  have ho2 := own2.turn set2 ht
                  have hW8 := act2.turn set2 ht
                  have hbz := bel2.trans (ht.below bel2.size hb1 hmg)
                  obtain ⟨mg2, hmg2⟩ : ∃ z, z = mg := ⟨_, rfl⟩
                  have hm2 := hmg
                  rw [← hmg2] at hs2 hm2
                  clear own2 set2 act2 bel2 ht hmg2
                  have hq9 : q ≤ 5000 := by omega
                  have tt : ((q0 : Int) != (q : Int) - (q2 : Int)) = false := by simp; omega
                  clear hq0
                  go_wp2_with fail
                  clear hW2
                  have hlx := OwnE.len prOk ho2
                  have hes := OwnE.es prOk ho2
                  have n1 := fun W (hb : Below wz.heap.size wz W) => slen_any b1 mg2 x2 W (hs2.later hb)
                  have n2 := fun W (hb : Below wz.heap.size wz W) => slist_any b1 mg2 x2 W (hs2.later hb) (by omega)
                  have n3 := fun W (hb : Below wz.heap.size wz W) => shas_any b1 mg2 x2 y.p W (hs2.later hb)
                  have n4 := fun W (hb : Below wz.heap.size wz W) => has_any A2 q2 c2 x2 wz.heap.size y.p W (hes.below hb) hb.size (by unfold maxLen; omega)
                  rw [sortP_self hr2] at n2
                  unfold MakesP at n2
                  rw [hlx] at n1 n2
                  have k1 := fun W (hb : Below wz.heap.size wz W) => act_cell hW8 hb
                  generalize decide (y.p ∈ x2) = r at *
                  refine wp_region_flow (by kernel_rfl) (by kernel_rfl) (by kernel_rfl) ?_
                  refine flow_val rfl ?_
                  apply Exists.intro
                  apply And.intro
                  · intro ρ w8 hr hf
                    have r1 := hr.const
                    have r2 := hr.func
                    try simp [Oper.looksAt, Op.operands, Call.operands, tput, frameW, Act.eval] at hf
                    go_simp
                    try rfl
                  refine flow_step (fun v _ => v = .int .i64 (q2 : Int)) rfl (fun _ _ _ h _ => h) ?_ ?_
                  · intro ρ w8 hr hw hf
                    have r2 := hr.func
                    simp [Oper.looksAt, Op.operands, Call.operands, tput, frameW, Act.eval] at hf
                    have CN := hide (n1 w8 hw)
                    go_simp
                    refine ⟨Below.refl _ _, (unhide CN).mono ?_⟩
                    rintro e w7 ⟨rfl, rfl⟩
                    exact ⟨_, rfl, Below.refl _ _, rfl⟩
                  refine flow_val rfl ?_
                  apply Exists.intro
                  apply And.intro
                  · intro ρ w8 hr hf
                    have r1 := hr.const
                    have r2 := hr.func
                    try simp [Oper.looksAt, Op.operands, Call.operands, tput, frameW, Act.eval] at hf
                    go_simp
                    try rfl
                  refine flow_val rfl ?_
                  apply Exists.intro
                  apply And.intro
                  · intro ρ w8 hr hf
                    have r1 := hr.const
                    have r2 := hr.func
                    try simp [Oper.looksAt, Op.operands, Call.operands, tput, frameW, Act.eval] at hf
                    go_simp
                    try rfl
                  refine flow_val rfl ?_
                  apply Exists.intro
                  apply And.intro
                  · intro ρ w8 hr hf
                    have r1 := hr.const
                    have r2 := hr.func
                    try simp [Oper.looksAt, Op.operands, Call.operands, tput, frameW, Act.eval] at hf
                    go_simp
                    try rfl
                  refine flow_val rfl ?_
                  apply Exists.intro
                  apply And.intro
                  · intro ρ w8 hr hf
                    have r1 := hr.const
                    have r2 := hr.func
                    try simp [Oper.looksAt, Op.operands, Call.operands, tput, frameW, Act.eval] at hf
                    go_simp
                    try rfl
                  refine flow_yes_val 5 false 113 rfl rfl (fun v w8 h8 => by simpa [tput] using h8) ?_
                  apply Exists.intro
                  apply And.intro
                  · intro ρ w8 hr hf
                    have r1 := hr.const
                    have r2 := hr.func
                    try simp [Oper.looksAt, Op.operands, Call.operands, tput, frameW, Act.eval] at hf
                    go_simp
                    try rfl
                  refine flow_yes (EsW prC q2 x2) 5 false 113 rfl rfl (fun v w8 h8 => by simpa [tput] using h8) (esW_steady _ _) ?_ ?_
                  · intro ρ w8 hr hw hf
                    have r2 := hr.func
                    simp [Oper.looksAt, Op.operands, Call.operands, tput, frameW, Act.eval] at hf
                    have CN := hide (n2 w8 hw)
                    go_simp
                    refine ⟨Below.refl _ _, (unhide CN).mono ?_⟩
                    rintro e w7 ⟨A7, c7, rfl, ho7, hb7⟩
                    exact ⟨_, rfl, hb7, A7, c7, w7.heap.size, rfl, OwnE.es prOk ho7, Nat.le_refl _⟩
                  refine flow_yes_val 5 false 113 rfl rfl (fun v w8 h8 => by simpa [tput] using h8) ?_
                  apply Exists.intro
                  apply And.intro
                  · intro ρ w8 hr hf
                    have r1 := hr.const
                    have r2 := hr.func
                    try simp [Oper.looksAt, Op.operands, Call.operands, tput, frameW, Act.eval] at hf
                    go_simp
                    try rfl
                  refine flow_yes (fun v _ => v = .bool true) 5 false 113 rfl rfl (fun v w8 h8 => by simpa [tput] using h8) (fun _ _ _ h _ => h) ?_ ?_
                  · intro ρ w8 hr hw hf
                    have r2 := hr.func
                    simp [Oper.looksAt, Op.operands, Call.operands, tput, frameW, Act.eval] at hf
                    obtain ⟨⟨A7, c7, B7, hf1, he7, hB7⟩, hf2⟩ := hf
                    have CN := hide (samep_eq A7 A2 q2 q2 c7 c2 x2 x2 B7 wz.heap.size w8 he7 (hes.below hw) (by unfold maxLen; omega) rfl)
                    go_simp
                    refine ⟨Below.refl _ _, (unhide CN).mono ?_⟩
                    rintro e w7 ⟨rfl, hd7⟩
                    exact ⟨_, rfl, drawn_below hd7, rfl⟩
                  refine flow_yes_val 5 false 113 rfl rfl (fun v w8 h8 => by simpa [tput] using h8) ?_
                  apply Exists.intro
                  apply And.intro
                  · intro ρ w8 hr hf
                    have r1 := hr.const
                    have r2 := hr.func
                    try simp [Oper.looksAt, Op.operands, Call.operands, tput, frameW, Act.eval] at hf
                    go_simp
                    try rfl
                  refine flow_val rfl ?_
                  apply Exists.intro
                  apply And.intro
                  · intro ρ w8 hr hf
                    have r1 := hr.const
                    have r2 := hr.func
                    try simp [Oper.looksAt, Op.operands, Call.operands, tput, frameW, Act.eval] at hf
                    go_simp
                    try rfl
                  refine flow_val rfl ?_
                  apply Exists.intro
                  apply And.intro
                  · intro ρ w8 hr hf
                    have r1 := hr.const
                    have r2 := hr.func
                    try simp [Oper.looksAt, Op.operands, Call.operands, tput, frameW, Act.eval] at hf
                    go_simp
                    try rfl
                  refine flow_yes_val 12 false 120 rfl rfl (fun v w8 h8 => by simpa [tput] using h8) ?_
                  apply Exists.intro
                  apply And.intro
                  · intro ρ w8 hr hf
                    have r1 := hr.const
                    have r2 := hr.func
                    try simp [Oper.looksAt, Op.operands, Call.operands, tput, frameW, Act.eval] at hf
                    go_simp
                    try rfl
                  refine flow_yes_val 12 false 120 rfl rfl (fun v w8 h8 => by simpa [tput] using h8) ?_
                  apply Exists.intro
                  apply And.intro
                  · intro ρ w8 hr hf
                    have r1 := hr.const
                    have r2 := hr.func
                    try simp [Oper.looksAt, Op.operands, Call.operands, tput, frameW, Act.eval] at hf
                    go_simp
                    try rfl
                  refine flow_yes_pure (.agg #[.int .u16 (y.p.i : Int), .int .u32 (y.p.k : Int)]) 12 false 120 rfl rfl (fun v w8 h8 => by simpa [tput] using h8) ?_ ?_
                  · intro ρ w8 hr hw hf
                    have h8 := (k1 w8 hw).2.1
                    have h9 := (k1 w8 hw).2.2.1
                    try simp [Oper.looksAt, Op.operands, Call.operands, tput, frameW, Act.eval] at hf
                    go_simp
                  refine flow_yes (fun v _ => v = .bool r) 12 false 120 rfl rfl (fun v w8 h8 => by simpa [tput] using h8) (fun _ _ _ h _ => h) ?_ ?_
                  · intro ρ w8 hr hw hf
                    have r2 := hr.func
                    simp [Oper.looksAt, Op.operands, Call.operands, tput, frameW, Act.eval] at hf
                    have CN := hide (n3 w8 hw)
                    go_simp
                    refine ⟨Below.refl _ _, (unhide CN).mono ?_⟩
                    rintro e w7 ⟨rfl, hb7⟩
                    exact ⟨_, rfl, hb7, rfl⟩
                  refine flow_yes_val 12 false 120 rfl rfl (fun v w8 h8 => by simpa [tput] using h8) ?_
                  apply Exists.intro
                  apply And.intro
                  · intro ρ w8 hr hf
                    have r1 := hr.const
                    have r2 := hr.func
                    try simp [Oper.looksAt, Op.operands, Call.operands, tput, frameW, Act.eval] at hf
                    go_simp
                    try rfl
                  refine flow_yes_val 12 false 120 rfl rfl (fun v w8 h8 => by simpa [tput] using h8) ?_
                  apply Exists.intro
                  apply And.intro
                  · intro ρ w8 hr hf
                    have r1 := hr.const
                    have r2 := hr.func
                    try simp [Oper.looksAt, Op.operands, Call.operands, tput, frameW, Act.eval] at hf
                    go_simp
                    try rfl
                  refine flow_yes_pure (.agg #[.int .u16 (y.p.i : Int), .int .u32 (y.p.k : Int)]) 12 false 120 rfl rfl (fun v w8 h8 => by simpa [tput] using h8) ?_ ?_
                  · intro ρ w8 hr hw hf
                    have h8 := (k1 w8 hw).2.1
                    have h9 := (k1 w8 hw).2.2.1
                    try simp [Oper.looksAt, Op.operands, Call.operands, tput, frameW, Act.eval] at hf
                    go_simp
                  refine flow_yes (fun v _ => v = .bool r) 12 false 120 rfl rfl (fun v w8 h8 => by simpa [tput] using h8) (fun _ _ _ h _ => h) ?_ ?_
                  · intro ρ w8 hr hw hf
                    have r2 := hr.func
                    simp [Oper.looksAt, Op.operands, Call.operands, tput, frameW, Act.eval] at hf
                    have CN := hide (n4 w8 hw)
                    go_simp
                    refine ⟨Below.refl _ _, (unhide CN).mono ?_⟩
                    rintro e w7 ⟨rfl, hb7⟩
                    exact ⟨_, rfl, hb7, rfl⟩
                  refine flow_yes_val 12 false 120 rfl rfl (fun v w8 h8 => by simpa [tput] using h8) ?_
                  apply Exists.intro
                  apply And.intro
                  · intro ρ w8 hr hf
                    have r1 := hr.const
                    have r2 := hr.func
                    try simp [Oper.looksAt, Op.operands, Call.operands, tput, frameW, Act.eval] at hf
                    go_simp
                    try rfl
                  refine flow_val rfl ?_
                  apply Exists.intro
                  apply And.intro
                  · intro ρ w8 hr hf
                    have r1 := hr.const
                    have r2 := hr.func
                    try simp [Oper.looksAt, Op.operands, Call.operands, tput, frameW, Act.eval] at hf
                    go_simp
                    try rfl
                  refine flow_nil ?_
                  intro f w9 hb9 hf
                  have g0 := hf 0; simp [tput, frameW, Act.eval] at g0
                  have g1 := hf 1; simp [tput, frameW, Act.eval] at g1
                  have g2 := hf 2; simp [tput, frameW, Act.eval] at g2
                  have g3 := hf 3; simp [tput, frameW, Act.eval] at g3
                  have g5 := hf 5; simp [tput, frameW, Act.eval] at g5
                  have g6 := hf 6; simp [tput, frameW, Act.eval] at g6
                  have g7 := hf 7; simp [tput, frameW, Act.eval] at g7
                  have g11 := hf 11; simp [tput, frameW, Act.eval] at g11
                  have g12 := hf 12; simp [tput, frameW, Act.eval] at g12
                  have g13 := hf 13; simp [tput, frameW, Act.eval] at g13
                  have g14 := hf 14; simp [tput, frameW, Act.eval] at g14
                  have g15 := hf 15; simp [tput, frameW, Act.eval] at g15
                  have g16 := hf 16; simp [tput, frameW, Act.eval] at g16
                  have g17 := hf 17; simp [tput, frameW, Act.eval] at g17
                  have g18 := hf 18; simp [tput, frameW, Act.eval] at g18
                  have g19 := hf 19; simp [tput, frameW, Act.eval] at g19
                  have g20 := hf 20; simp [tput, frameW, Act.eval] at g20
                  have g21 := hf 21; simp [tput, frameW, Act.eval] at g21
                  have g22 := hf 22; simp [tput, frameW, Act.eval] at g22
                  have g130 := hf 130; simp [tput, frameW, Act.eval] at g130
                  have g131 := hf 131; simp [tput, frameW, Act.eval] at g131
                  rw [show frameOf f _ _ = ⟨#[f 0, f 1, f 2, f 3, f 4, f 5, f 6, f 7, f 8, f 9, f 10, f 11, f 12, f 13, f 14, f 15, f 16, f 17, f 18, f 19, f 20, f 21, f 22, f 23, f 24, f 25, f 26, f 27, f 28, f 29, f 30, f 31, f 32, f 33, f 34, f 35, f 36, f 37, f 38, f 39, f 40, f 41, f 42, f 43, f 44, f 45, f 46, f 47, f 48, f 49, f 50, f 51, f 52, f 53, f 54, f 55, f 56, f 57, f 58, f 59, f 60, f 61, f 62, f 63, f 64, f 65, f 66, f 67, f 68, f 69, f 70, f 71, f 72, f 73, f 74, f 75, f 76, f 77, f 78, f 79, f 80, f 81, f 82, f 83, f 84, f 85, f 86, f 87, f 88, f 89, f 90, f 91, f 92, f 93, f 94, f 95, f 96, f 97, f 98, f 99, f 100, f 101, f 102, f 103, f 104, f 105, f 106, f 107, f 108, f 109, f 110, f 111, f 112, f 113, f 114, f 115, f 116, f 117, f 118, f 119, f 120, f 121, f 122, f 123, f 124, f 125, f 126, f 127, f 128, f 129, f 130, f 131], []⟩ from rfl, g0, g1, g2, g3, g5, g6, g7, g11, g12, g13, g14, g15, g16, g17, g18, g19, g20, g21, g22, g130, g131]
                  have hR := hide (And.intro (OwnE.later ho2 hb9) (And.intro (hs2.later hb9) (hbz.trans (hb9.mono hbz.size))))
                  clear hf n1 n2 n3 n4 k1 hb9 hes ho2 hs2 hW8 hbz
                  go_wp2
                  go_roundw
                  case rel => exact ⟨i + 1, q2, A2, c2, x2, mg2, by omega, by omega, by go_num, rfl, by omega, hr2, hR.out.1, hR.out.2.1, hm2, hR.out.2.2⟩
                  case measure => simp [intOf]; omega
                · have t4 : ((r5 : Int) == 4) = false := by simp; omega
                  obtain ⟨i0, hi0, hz0, hz1, hz2⟩ := info_parts info_pid
                  have hq9 : q ≤ 5000 := by omega
                  go_wp2_with fail
                  refine wp_region_flow_tail 6 (by kernel_rfl) (by kernel_rfl) (by kernel_rfl) ?_
                  simp only [List.take_succ_cons, List.take_zero, List.drop_succ_cons, List.drop_zero]
                  refine flow_step (LitW 32 prC 2 w.heap.size) rfl (litW_steady _) ?_ ?_
                  · intro ρ w8 hr hw hf
                    try simp [Oper.looksAt, Op.operands, Call.operands, tput, frameW, Act.eval] at hf
                    go_simp
                    exact ⟨(Below.refl _ _).alloc (Nat.le_refl _) _, litW_made (Nat.le_trans bel1.size hw.size)⟩
                  refine flow_step (EsW prC q x) rfl (esW_steady _ _) ?_ ?_
                  · intro ρ w8 hr hw hf
                    try simp [Oper.looksAt, Op.operands, Call.operands, tput, frameW, Act.eval] at hf
                    go_simp
                    exact ⟨Below.refl _ _, Ax, cx, W.heap.size, rfl, (OwnE.es prOk own1).below hw, hw.size⟩
                  refine flow_step (OwnW 32 prC 2 w.heap.size q x) rfl (ownW_steady _ _ _) ?_ ?_
                  · intro ρ w8 hr hw hf
                    simp [Oper.looksAt, Op.operands, Call.operands, tput, frameW, Act.eval] at hf
                    generalize hu : ρ (.tmp 42) = u8 at hf
                    generalize hv : ρ (.tmp 43) = u9 at hf
                    obtain ⟨v7, w7, hrun, ho7, hb7⟩ := lit_append (P := Try.prog) (ty := 22) Try.underlying22 hi0 hz0 hz1 hz2 rfl prOk hf.1 hf.2 (by unfold maxLen; omega) (by omega) (Nat.le_trans bel1.size hw.size)
                    have HO := hide (And.intro hb7 ho7)
                    clear hf hb7 ho7
                    simp only [execOp, resolve, invoke, builtin, Sem.run_bind, Sem.run_pure, Result.andThen_ok, List.map_toArray, List.map_cons, List.map_nil, hu, hv, hrun]
                    exact unhide HO
                  refine flow_val rfl ?_
                  apply Exists.intro
                  apply And.intro
                  · intro ρ w8 hr hf
                    have r1 := hr.const
                    have r2 := hr.func
                    try simp [Oper.looksAt, Op.operands, Call.operands, tput, frameW, Act.eval] at hf
                    go_simp
                    try rfl
                  refine flow_pure (.agg #[.int .u16 (y.p.i : Int), .int .u32 (y.p.k : Int)]) rfl ?_ ?_
                  · intro ρ w8 hr hw hf
                    have h8 := (act_cell hW8 hw).2.1
                    have h9 := (act_cell hW8 hw).2.2.1
                    try simp [Oper.looksAt, Op.operands, Call.operands, tput, frameW, Act.eval] at hf
                    go_simp
                  refine flow_step (EsW prC 1 [y.p]) rfl (esW_steady _ _) ?_ ?_
                  · intro ρ w8 hr hw hf
                    simp [Oper.looksAt, Op.operands, Call.operands, tput, frameW, Act.eval] at hf
                    go_simp
                    exact ⟨(Below.refl _ _).alloc (Nat.le_refl _) _, _, _, _, rfl, es_lit w8 y.p _, by simp⟩
                  refine flow_nil ?_
                  intro f w9 hb9 hf
                  have hown9 : OwnP w9 w.heap.size (f 44) q x := by have h := hf 44; simpa [tput, OwnW] using h
                  obtain ⟨A9, c9, e9⟩ := OwnE.shape hown9
                  rw [e9] at hown9
                  obtain ⟨A7, c7, B7, e7, he7, hB7⟩ : EsW prC 1 [y.p] (f 47) w9 := by have h := hf 47; simpa [tput] using h
                  have g0 := hf 0; simp [tput, frameW, Act.eval] at g0
                  have g1 := hf 1; simp [tput, frameW, Act.eval] at g1
                  have g2 := hf 2; simp [tput, frameW, Act.eval] at g2
                  have g3 := hf 3; simp [tput, frameW, Act.eval] at g3
                  have g5 := hf 5; simp [tput, frameW, Act.eval] at g5
                  have g6 := hf 6; simp [tput, frameW, Act.eval] at g6
                  have g7 := hf 7; simp [tput, frameW, Act.eval] at g7
                  have g8 := hf 8; simp [tput, frameW, Act.eval] at g8
                  have g9 := hf 9; simp [tput, frameW, Act.eval] at g9
                  have g11 := hf 11; simp [tput, frameW, Act.eval] at g11
                  have g12 := hf 12; simp [tput, frameW, Act.eval] at g12
                  have g13 := hf 13; simp [tput, frameW, Act.eval] at g13
                  have g14 := hf 14; simp [tput, frameW, Act.eval] at g14
                  have g15 := hf 15; simp [tput, frameW, Act.eval] at g15
                  have g16 := hf 16; simp [tput, frameW, Act.eval] at g16
                  have g17 := hf 17; simp [tput, frameW, Act.eval] at g17
                  have g18 := hf 18; simp [tput, frameW, Act.eval] at g18
                  have g19 := hf 19; simp [tput, frameW, Act.eval] at g19
                  have g20 := hf 20; simp [tput, frameW, Act.eval] at g20
                  have g21 := hf 21; simp [tput, frameW, Act.eval] at g21
                  have g22 := hf 22; simp [tput, frameW, Act.eval] at g22
                  have g131 := hf 131; simp [tput, frameW, Act.eval] at g131
                  rw [show frameOf f _ _ = ⟨#[f 0, f 1, f 2, f 3, f 4, f 5, f 6, f 7, f 8, f 9, f 10, f 11, f 12, f 13, f 14, f 15, f 16, f 17, f 18, f 19, f 20, f 21, f 22, f 23, f 24, f 25, f 26, f 27, f 28, f 29, f 30, f 31, f 32, f 33, f 34, f 35, f 36, f 37, f 38, f 39, f 40, f 41, f 42, f 43, f 44, f 45, f 46, f 47, f 48, f 49, f 50, f 51, f 52, f 53, f 54, f 55, f 56, f 57, f 58, f 59, f 60, f 61, f 62, f 63, f 64, f 65, f 66, f 67, f 68, f 69, f 70, f 71, f 72, f 73, f 74, f 75, f 76, f 77, f 78, f 79, f 80, f 81, f 82, f 83, f 84, f 85, f 86, f 87, f 88, f 89, f 90, f 91, f 92, f 93, f 94, f 95, f 96, f 97, f 98, f 99, f 100, f 101, f 102, f 103, f 104, f 105, f 106, f 107, f 108, f 109, f 110, f 111, f 112, f 113, f 114, f 115, f 116, f 117, f 118, f 119, f 120, f 121, f 122, f 123, f 124, f 125, f 126, f 127, f 128, f 129, f 130, f 131], []⟩ from rfl, g0, g1, g2, g3, g5, g6, g7, g8, g9, g11, g12, g13, g14, g15, g16, g17, g18, g19, g20, g21, g22, g131, e9, e7]
                  have bel9 := bel1.trans (hb9.mono bel1.size)
                  have set9 := set1.later hb9
                  have act9 := hW8.later hb9
                  clear hf e9 g0 g1 g2 g3 g5 g6 g7 g8 g9 g11 g12 g13 g14 g15 g16 g17 g18 g19 g20 g21 g22 g131 e7 own1 set1 hW8 hb9 e0 e1 e2 e3 bel1
                  obtain ⟨x2, hx2⟩ : ∃ z, z = sortP (x ++ [y.p]) := ⟨_, rfl⟩
                  obtain ⟨q2, hq2⟩ : ∃ z, z = x2.length := ⟨_, rfl⟩
                  have hr2 : Rising x2 := by rw [hx2]; exact sortP_rising _
                  have hqf : ([y.p].foldl dedS x).length = q2 := by rw [hq2, hx2]; exact (fold_sort x [y.p] (rising_nodup hrx)).1
                  have hmf := hide (show ∀ p, p ∈ x2 ↔ p ∈ [y.p].foldl dedS x from by rw [hx2]; exact (fold_sort x [y.p] (rising_nodup hrx)).2)
                  have hl2 : q2 ≤ q + 1 := by
                    have h := sortP_len (x ++ [y.p])
                    rw [List.length_append, hqx, List.length_singleton, ← hx2, ← hq2] at h
                    exact h
                  have h1 := fun A3 c3 V h => rsort_any A3 (q + 1) c3 (x ++ [y.p]) V.heap.size V h (Nat.le_refl _) (by omega)
                  unfold MakesP at h1
                  rw [← hx2, ← hq2] at h1
                  clear hx2 hq2
                  have h2 := fun V h => sadd_any b1 mg x y.p V h (by unfold maxLen; omega)
                  unfold AddsTo at h2
                  obtain ⟨r0, hr0⟩ : ∃ z, z = !decide (y.p ∈ x) := ⟨_, rfl⟩
                  rw [← hr0] at h2
                  have hcmp : decide (q < q2) = r0 := by
                    rw [hr0, ← hqf, ← hqx]
                    show decide (x.length < (dedS x y.p).length) = _
                    unfold dedS
                    by_cases hp : y.p ∈ x <;> simp [hp]
                  have hcmp2 : decide ((q : Int) < (q2 : Int)) = r0 := by rw [← hcmp]; simp
                  clear hr0
                  go_wp2_with (at_builtin; refine wp_append_e _ rfl (.tmp 44) (.tmp 47) 22 rfl 32 i0 _ 8 Try.underlying22 hi0 hz0 hz1 hz2 rfl prOk w.heap.size q _ x rfl hown9 B7 A7 1 c7 [y.p] rfl he7 (by unfold maxLen; omega) (by omega) w.heap.size w bel9 (Nat.le_refl _) bel9.size ?_; intro A3 c3 w3 r1 r2 r3 r4; refine Hid.out ?_)
                  refine Lib.hid ?_
                  have own3 : OwnP w3 w.heap.size (.slice A3 (q + 1) c3) (q + 1) (x ++ [y.p]) := r1
                  have set3 := SetAt.row set9 hown9 r4
                  have act3 := act9.row hown9 r4
                  have bel3 : Below w.heap.size w w3 := r2
                  clear r1 r2 r3 r4 hown9 set9 act9
                  go_wp2_with fail
                  refine (h1 A3 c3 w3 (OwnE.es prOk own3)).mono ?_
                  rintro e wy ⟨A2, c2, rfl, ho5, hb⟩
                  have own5 : OwnP wy w.heap.size _ _ _ := OwnE.mono ho5 bel3.size
                  have set5 := set3.later hb
                  have act5 := act3.later hb
                  have bel5 := bel3.trans (hb.mono bel3.size)
                  obtain ⟨e0, e1, e2, e3⟩ := act5.cells
                  clear h1 own3 set3 act3 bel3 ho5 hb
                  go_wp2_with fail
                  refine (h2 wy set5).mono ?_
                  rintro e wz ⟨rfl, mg2, hs2, ht, hmv⟩
                  clear h2 e0 e1 e2 e3
                  have ho2 := own5.turn set5 ht
                  have hW8 := act5.turn set5 ht
                  have hbz := bel5.trans (ht.below bel5.size hb1 hmg)
                  have hm2 := hmv.base hmg bel5.size
                  have hs2 : SetAt wz b1 mg2 x2 := hs2.same (rising_nodup hr2) hmf.out
                  clear own5 set5 act5 bel5 ht hmv
                  have tt : ∀ b : Bool, (b != b) = false := fun b => by simp
                  clear hqf
                  go_wp2_with fail
                  clear hW2
                  have hlx := OwnE.len prOk ho2
                  have hes := OwnE.es prOk ho2
                  have n1 := fun W (hb : Below wz.heap.size wz W) => slen_any b1 mg2 x2 W (hs2.later hb)
                  have n2 := fun W (hb : Below wz.heap.size wz W) => slist_any b1 mg2 x2 W (hs2.later hb) (by omega)
                  have n3 := fun W (hb : Below wz.heap.size wz W) => shas_any b1 mg2 x2 y.p W (hs2.later hb)
                  have n4 := fun W (hb : Below wz.heap.size wz W) => has_any A2 q2 c2 x2 wz.heap.size y.p W (hes.below hb) hb.size (by unfold maxLen; omega)
                  rw [sortP_self hr2] at n2
                  unfold MakesP at n2
                  rw [hlx] at n1 n2
                  have k1 := fun W (hb : Below wz.heap.size wz W) => act_cell hW8 hb
                  generalize decide (y.p ∈ x2) = r at *
                  refine wp_region_flow (by kernel_rfl) (by kernel_rfl) (by kernel_rfl) ?_
                  refine flow_val rfl ?_
                  apply Exists.intro
                  apply And.intro
                  · intro ρ w8 hr hf
                    have r1 := hr.const
                    have r2 := hr.func
                    try simp [Oper.looksAt, Op.operands, Call.operands, tput, frameW, Act.eval] at hf
                    go_simp
                    try rfl
                  refine flow_step (fun v _ => v = .int .i64 (q2 : Int)) rfl (fun _ _ _ h _ => h) ?_ ?_
                  · intro ρ w8 hr hw hf
                    have r2 := hr.func
                    simp [Oper.looksAt, Op.operands, Call.operands, tput, frameW, Act.eval] at hf
                    have CN := hide (n1 w8 hw)
                    go_simp
                    refine ⟨Below.refl _ _, (unhide CN).mono ?_⟩
                    rintro e w7 ⟨rfl, rfl⟩
                    exact ⟨_, rfl, Below.refl _ _, rfl⟩
                  refine flow_val rfl ?_
                  apply Exists.intro
                  apply And.intro
                  · intro ρ w8 hr hf
                    have r1 := hr.const
                    have r2 := hr.func
                    try simp [Oper.looksAt, Op.operands, Call.operands, tput, frameW, Act.eval] at hf
                    go_simp
                    try rfl
                  refine flow_val rfl ?_
                  apply Exists.intro
                  apply And.intro
                  · intro ρ w8 hr hf
                    have r1 := hr.const
                    have r2 := hr.func
                    try simp [Oper.looksAt, Op.operands, Call.operands, tput, frameW, Act.eval] at hf
                    go_simp
                    try rfl
                  refine flow_val rfl ?_
                  apply Exists.intro
                  apply And.intro
                  · intro ρ w8 hr hf
                    have r1 := hr.const
                    have r2 := hr.func
                    try simp [Oper.looksAt, Op.operands, Call.operands, tput, frameW, Act.eval] at hf
                    go_simp
                    try rfl
                  refine flow_val rfl ?_
                  apply Exists.intro
                  apply And.intro
                  · intro ρ w8 hr hf
                    have r1 := hr.const
                    have r2 := hr.func
                    try simp [Oper.looksAt, Op.operands, Call.operands, tput, frameW, Act.eval] at hf
                    go_simp
                    try rfl
                  refine flow_yes_val 5 false 113 rfl rfl (fun v w8 h8 => by simpa [tput] using h8) ?_
                  apply Exists.intro
                  apply And.intro
                  · intro ρ w8 hr hf
                    have r1 := hr.const
                    have r2 := hr.func
                    try simp [Oper.looksAt, Op.operands, Call.operands, tput, frameW, Act.eval] at hf
                    go_simp
                    try rfl
                  refine flow_yes (EsW prC q2 x2) 5 false 113 rfl rfl (fun v w8 h8 => by simpa [tput] using h8) (esW_steady _ _) ?_ ?_
                  · intro ρ w8 hr hw hf
                    have r2 := hr.func
                    simp [Oper.looksAt, Op.operands, Call.operands, tput, frameW, Act.eval] at hf
                    have CN := hide (n2 w8 hw)
                    go_simp
                    refine ⟨Below.refl _ _, (unhide CN).mono ?_⟩
                    rintro e w7 ⟨A7, c7, rfl, ho7, hb7⟩
                    exact ⟨_, rfl, hb7, A7, c7, w7.heap.size, rfl, OwnE.es prOk ho7, Nat.le_refl _⟩
                  refine flow_yes_val 5 false 113 rfl rfl (fun v w8 h8 => by simpa [tput] using h8) ?_
                  apply Exists.intro
                  apply And.intro
                  · intro ρ w8 hr hf
                    have r1 := hr.const
                    have r2 := hr.func
                    try simp [Oper.looksAt, Op.operands, Call.operands, tput, frameW, Act.eval] at hf
                    go_simp
                    try rfl
                  refine flow_yes (fun v _ => v = .bool true) 5 false 113 rfl rfl (fun v w8 h8 => by simpa [tput] using h8) (fun _ _ _ h _ => h) ?_ ?_
                  · intro ρ w8 hr hw hf
                    have r2 := hr.func
                    simp [Oper.looksAt, Op.operands, Call.operands, tput, frameW, Act.eval] at hf
                    obtain ⟨⟨A7, c7, B7, hf1, he7, hB7⟩, hf2⟩ := hf
                    have CN := hide (samep_eq A7 A2 q2 q2 c7 c2 x2 x2 B7 wz.heap.size w8 he7 (hes.below hw) (by unfold maxLen; omega) rfl)
                    go_simp
                    refine ⟨Below.refl _ _, (unhide CN).mono ?_⟩
                    rintro e w7 ⟨rfl, hd7⟩
                    exact ⟨_, rfl, drawn_below hd7, rfl⟩
                  refine flow_yes_val 5 false 113 rfl rfl (fun v w8 h8 => by simpa [tput] using h8) ?_
                  apply Exists.intro
                  apply And.intro
                  · intro ρ w8 hr hf
                    have r1 := hr.const
                    have r2 := hr.func
                    try simp [Oper.looksAt, Op.operands, Call.operands, tput, frameW, Act.eval] at hf
                    go_simp
                    try rfl
                  refine flow_val rfl ?_
                  apply Exists.intro
                  apply And.intro
                  · intro ρ w8 hr hf
                    have r1 := hr.const
                    have r2 := hr.func
                    try simp [Oper.looksAt, Op.operands, Call.operands, tput, frameW, Act.eval] at hf
                    go_simp
                    try rfl
                  refine flow_val rfl ?_
                  apply Exists.intro
                  apply And.intro
                  · intro ρ w8 hr hf
                    have r1 := hr.const
                    have r2 := hr.func
                    try simp [Oper.looksAt, Op.operands, Call.operands, tput, frameW, Act.eval] at hf
                    go_simp
                    try rfl
                  refine flow_yes_val 12 false 120 rfl rfl (fun v w8 h8 => by simpa [tput] using h8) ?_
                  apply Exists.intro
                  apply And.intro
                  · intro ρ w8 hr hf
                    have r1 := hr.const
                    have r2 := hr.func
                    try simp [Oper.looksAt, Op.operands, Call.operands, tput, frameW, Act.eval] at hf
                    go_simp
                    try rfl
                  refine flow_yes_val 12 false 120 rfl rfl (fun v w8 h8 => by simpa [tput] using h8) ?_
                  apply Exists.intro
                  apply And.intro
                  · intro ρ w8 hr hf
                    have r1 := hr.const
                    have r2 := hr.func
                    try simp [Oper.looksAt, Op.operands, Call.operands, tput, frameW, Act.eval] at hf
                    go_simp
                    try rfl
                  refine flow_yes_pure (.agg #[.int .u16 (y.p.i : Int), .int .u32 (y.p.k : Int)]) 12 false 120 rfl rfl (fun v w8 h8 => by simpa [tput] using h8) ?_ ?_
                  · intro ρ w8 hr hw hf
                    have h8 := (k1 w8 hw).2.1
                    have h9 := (k1 w8 hw).2.2.1
                    try simp [Oper.looksAt, Op.operands, Call.operands, tput, frameW, Act.eval] at hf
                    go_simp
                  refine flow_yes (fun v _ => v = .bool r) 12 false 120 rfl rfl (fun v w8 h8 => by simpa [tput] using h8) (fun _ _ _ h _ => h) ?_ ?_
                  · intro ρ w8 hr hw hf
                    have r2 := hr.func
                    simp [Oper.looksAt, Op.operands, Call.operands, tput, frameW, Act.eval] at hf
                    have CN := hide (n3 w8 hw)
                    go_simp
                    refine ⟨Below.refl _ _, (unhide CN).mono ?_⟩
                    rintro e w7 ⟨rfl, hb7⟩
                    exact ⟨_, rfl, hb7, rfl⟩
                  refine flow_yes_val 12 false 120 rfl rfl (fun v w8 h8 => by simpa [tput] using h8) ?_
                  apply Exists.intro
                  apply And.intro
                  · intro ρ w8 hr hf
                    have r1 := hr.const
                    have r2 := hr.func
                    try simp [Oper.looksAt, Op.operands, Call.operands, tput, frameW, Act.eval] at hf
                    go_simp
                    try rfl
                  refine flow_yes_val 12 false 120 rfl rfl (fun v w8 h8 => by simpa [tput] using h8) ?_
                  apply Exists.intro
                  apply And.intro
                  · intro ρ w8 hr hf
                    have r1 := hr.const
                    have r2 := hr.func
                    try simp [Oper.looksAt, Op.operands, Call.operands, tput, frameW, Act.eval] at hf
                    go_simp
                    try rfl
                  refine flow_yes_pure (.agg #[.int .u16 (y.p.i : Int), .int .u32 (y.p.k : Int)]) 12 false 120 rfl rfl (fun v w8 h8 => by simpa [tput] using h8) ?_ ?_
                  · intro ρ w8 hr hw hf
                    have h8 := (k1 w8 hw).2.1
                    have h9 := (k1 w8 hw).2.2.1
                    try simp [Oper.looksAt, Op.operands, Call.operands, tput, frameW, Act.eval] at hf
                    go_simp
                  refine flow_yes (fun v _ => v = .bool r) 12 false 120 rfl rfl (fun v w8 h8 => by simpa [tput] using h8) (fun _ _ _ h _ => h) ?_ ?_
                  · intro ρ w8 hr hw hf
                    have r2 := hr.func
                    simp [Oper.looksAt, Op.operands, Call.operands, tput, frameW, Act.eval] at hf
                    have CN := hide (n4 w8 hw)
                    go_simp
                    refine ⟨Below.refl _ _, (unhide CN).mono ?_⟩
                    rintro e w7 ⟨rfl, hb7⟩
                    exact ⟨_, rfl, hb7, rfl⟩
                  refine flow_yes_val 12 false 120 rfl rfl (fun v w8 h8 => by simpa [tput] using h8) ?_
                  apply Exists.intro
                  apply And.intro
                  · intro ρ w8 hr hf
                    have r1 := hr.const
                    have r2 := hr.func
                    try simp [Oper.looksAt, Op.operands, Call.operands, tput, frameW, Act.eval] at hf
                    go_simp
                    try rfl
                  refine flow_val rfl ?_
                  apply Exists.intro
                  apply And.intro
                  · intro ρ w8 hr hf
                    have r1 := hr.const
                    have r2 := hr.func
                    try simp [Oper.looksAt, Op.operands, Call.operands, tput, frameW, Act.eval] at hf
                    go_simp
                    try rfl
                  refine flow_nil ?_
                  intro f w9 hb9 hf
                  have g0 := hf 0; simp [tput, frameW, Act.eval] at g0
                  have g1 := hf 1; simp [tput, frameW, Act.eval] at g1
                  have g2 := hf 2; simp [tput, frameW, Act.eval] at g2
                  have g3 := hf 3; simp [tput, frameW, Act.eval] at g3
                  have g5 := hf 5; simp [tput, frameW, Act.eval] at g5
                  have g6 := hf 6; simp [tput, frameW, Act.eval] at g6
                  have g7 := hf 7; simp [tput, frameW, Act.eval] at g7
                  have g11 := hf 11; simp [tput, frameW, Act.eval] at g11
                  have g12 := hf 12; simp [tput, frameW, Act.eval] at g12
                  have g13 := hf 13; simp [tput, frameW, Act.eval] at g13
                  have g14 := hf 14; simp [tput, frameW, Act.eval] at g14
                  have g15 := hf 15; simp [tput, frameW, Act.eval] at g15
                  have g16 := hf 16; simp [tput, frameW, Act.eval] at g16
                  have g17 := hf 17; simp [tput, frameW, Act.eval] at g17
                  have g18 := hf 18; simp [tput, frameW, Act.eval] at g18
                  have g19 := hf 19; simp [tput, frameW, Act.eval] at g19
                  have g20 := hf 20; simp [tput, frameW, Act.eval] at g20
                  have g21 := hf 21; simp [tput, frameW, Act.eval] at g21
                  have g22 := hf 22; simp [tput, frameW, Act.eval] at g22
                  have g130 := hf 130; simp [tput, frameW, Act.eval] at g130
                  have g131 := hf 131; simp [tput, frameW, Act.eval] at g131
                  rw [show frameOf f _ _ = ⟨#[f 0, f 1, f 2, f 3, f 4, f 5, f 6, f 7, f 8, f 9, f 10, f 11, f 12, f 13, f 14, f 15, f 16, f 17, f 18, f 19, f 20, f 21, f 22, f 23, f 24, f 25, f 26, f 27, f 28, f 29, f 30, f 31, f 32, f 33, f 34, f 35, f 36, f 37, f 38, f 39, f 40, f 41, f 42, f 43, f 44, f 45, f 46, f 47, f 48, f 49, f 50, f 51, f 52, f 53, f 54, f 55, f 56, f 57, f 58, f 59, f 60, f 61, f 62, f 63, f 64, f 65, f 66, f 67, f 68, f 69, f 70, f 71, f 72, f 73, f 74, f 75, f 76, f 77, f 78, f 79, f 80, f 81, f 82, f 83, f 84, f 85, f 86, f 87, f 88, f 89, f 90, f 91, f 92, f 93, f 94, f 95, f 96, f 97, f 98, f 99, f 100, f 101, f 102, f 103, f 104, f 105, f 106, f 107, f 108, f 109, f 110, f 111, f 112, f 113, f 114, f 115, f 116, f 117, f 118, f 119, f 120, f 121, f 122, f 123, f 124, f 125, f 126, f 127, f 128, f 129, f 130, f 131], []⟩ from rfl, g0, g1, g2, g3, g5, g6, g7, g11, g12, g13, g14, g15, g16, g17, g18, g19, g20, g21, g22, g130, g131]
                  have hR := hide (And.intro (OwnE.later ho2 hb9) (And.intro (hs2.later hb9) (hbz.trans (hb9.mono hbz.size))))
                  clear hf n1 n2 n3 n4 k1 hb9 hes ho2 hs2 hW8 hbz
                  go_wp2
                  go_roundw
                  case rel => exact ⟨i + 1, q2, A2, c2, x2, mg2, by omega, by omega, by go_num, rfl, by omega, hr2, hR.out.1, hR.out.2.1, hm2, hR.out.2.2⟩
                  case measure => simp [intOf]; omega
          · go_wp2_with fail
            refine (awake4_any _).mono ?_
            rintro e w' ⟨rfl, hb⟩
            have hbz := hbr.trans (hb.mono hbr.size)
            clear hb hbr
            go_wp2
            go_ret
            exact ⟨rfl, hbz⟩
        · go_wp2_with fail
          refine (awake4_any _).mono ?_
          rintro e w' ⟨rfl, hb⟩
          have hbz := hbr.trans (hb.mono hbr.size)
          clear hb hbr
          go_wp2
          go_ret
          exact ⟨rfl, hbz⟩

/-! ### THE ROW's STEP -/
set_option maxRecDepth 100000 in
theorem lifted (os : Os) (started : os.Started) (H : Type) (enc : TypeId × Value → H) :
    ReturnsInHanded {} Try.checked os 3 .any (Rows.psetPlaysSpec.pre6 enc Try.prog Try.f3 Rows.psetPlaysRow.domain false) (Rows.psetPlaysSpec.post enc Try.prog Try.f3 false true false false) := by
  refine returnsInHanded_of_change (C := Try.checked) own started (by kernel_rfl) Try.func3
    (ChangeSpec.witness6 (enc := enc) (C := Try.checked) false ⟨#[], #[.slice none 0 0, .slice none 0 0], []⟩ 8 (by kernel_rfl) (by kernel_rfl) (by kernel_rfl) (by kernel_rfl)) ?_
  intro W base args ds gs before hval0 hW hcnd _
  have hval : ∀ (j : Nat) t v, Try.f3.params[j]? = some t → args[j]? = some v → Value.okWide Try.prog W .any base t v := hval0
  have hW' := hW
  obtain ⟨p, q, hA0, hV, rfl, hfz, hnd⟩ := hW
  have hA : DataW.TrodAll enc Try.prog W 0 (fun _ => true) true Try.f3.params.toList args.toList ds p := hA0
  rw [Try.params3] at hA hval
  obtain ⟨v0, vs0, d0, ds0, p0, q0, hargs, rfl, rfl, h0, r0⟩ := trodAll_cons hA
  obtain ⟨v1, vs1, d1, ds1, p1, q1, rfl, rfl, rfl, h1, r1⟩ := trodAll_cons r0
  obtain ⟨rfl, rfl, rfl⟩ := trodAll_nil r1
  obtain rfl : args = #[v0, v1] := by cases args; simp_all
  obtain ⟨rfl, rfl⟩ := trodVars_none hV
  have k0 := h0
  have lt0 : ∀ x ∈ p0, x.block < W.heap.size := by obtain ⟨m, hm⟩ := k0; exact DataW.trod_lt m _ _ _ hm
  obtain ⟨a0, len0, cap0, rfl⟩ := okWide_slice Try.underlying22 (hval 0 22 v0 rfl rfl)
  obtain ⟨z0, w0⟩ : ∃ l, Ps0 W a0 len0 cap0 l := by
    obtain ⟨fuel, hf⟩ := h0
    exact pids_row (open_pids hf) rfl
  have k1 := h1
  have lt1 : ∀ x ∈ p1, x.block < W.heap.size := by obtain ⟨m, hm⟩ := k1; exact DataW.trod_lt m _ _ _ hm
  obtain ⟨a1, len1, cap1, rfl⟩ := okWide_slice Try.underlying23 (hval 1 23 v1 rfl rfl)
  obtain ⟨z1, w1⟩ : ∃ l, Acts0 W a1 len1 cap1 l := by
    obtain ⟨fuel, hf⟩ := h1
    exact acts_row (open_acts hf) rfl
  clear hA0 hval0
  refine (walk a0 len0 cap0 z0 a1 len1 cap1 z1 W w0 w1).mono fun e W' ⟨he, bel⟩ => ?_
  subst he
  exact ⟨_, rfl, _, _, _, [], _, [], hW', trodAll_mk1 (shut_bool Try.underlying4 _), (trodAll_cons_mk (Below.trod laidOut (by kernel_rfl) (of_decide_eq_true (by kernel_rfl)) k0 bel lt0) (trodAll_cons_mk (Below.trod laidOut (by kernel_rfl) (of_decide_eq_true (by kernel_rfl)) k1 bel lt1) trodAll_mk0)), rfl, bel.frame _, fun h => by cases h⟩

theorem over : Rows.psetPlaysRow.holds Try.pinned (OpenSpec.ofChange Rows.psetPlaysSpec) :=
  OpenClaim.holds_of_wide 3 Try.f3 rfl rfl rfl rfl rfl rfl rfl ⟨rfl, rfl, rfl, rfl, rfl⟩ rfl rfl rfl rfl rfl (by kernel_rfl) Try.func3 (by kernel_rfl)
    (of_decide_eq_true (by kernel_rfl)) (by unfold Func.isWrapper; first | (rw [if_pos (by decide +kernel)]; kernel_rfl) | (rw [if_neg (by decide +kernel)]; exact ⟨rfl, rfl⟩))
    (fun os started H enc _ => lifted os started H enc)

theorem proved : Rows.PsetPlaysSaid := over
#print axioms proved
end Go.Proofs.Ytfjefhmpfnnmeaa.psetPlays
