/-
  What was laid is read: the methods' contracts where a form stands at the beginning.
-/
import Derived.Test.YtjmkecaljkcoiaaDoorQRd5
import Derived.Test.YtjmkecaljkcoiaaDoorQRd1
import Derived.Test.YtjmkecaljkcoiaaDoorQSet1
namespace Go.Proofs.YtjmkecaljkcoiaaDoor
open Go.RowKit
set_option linter.unusedVariables false
set_option linter.unusedSimpArgs false

theorem numE_front (n most : Nat) (t : List UInt8) (hn : n < 18446744073709551616) (hm : n ≤ most) : numE (shortL n ++ t) most = 0 := by
  unfold numE
  rw [getF_short n t hn]
  simp only [if_true]
  rw [if_neg (by omega)]
theorem rest_front (n : Nat) (t : List UInt8) (hn : n < 18446744073709551616) : (shortL n ++ t).drop (getF (shortL n ++ t)).2.1 = t := by
  rw [getF_short n t hn]
  exact List.drop_left
theorem rdnum_front (b n most : Nat) (t : List UInt8) (w : World) (h : RdAt w b (shortL n ++ t) 0) (hm : n ≤ most) (hmost : most < 18446744073709551616) :
    Calls Tryd.prog 52 #[.pointer (some ⟨b, 0, none⟩), .int .u64 (most : Int)] w (ReadsP w b (.int .u64 (n : Int)) t 0) := by
  have hn : n < 18446744073709551616 := by omega
  have := rdnum_ok b _ most w h hmost (numE_front n most t hn hm)
  rw [rest_front n t hn, getF_short n t hn] at this
  exact this
theorem rdnum_max (b n : Nat) (t : List UInt8) (w : World) (h : RdAt w b (shortL n ++ t) 0) (hn : n < 18446744073709551616) :
    Calls Tryd.prog 52 #[.pointer (some ⟨b, 0, none⟩), .int .u64 18446744073709551615] w (ReadsP w b (.int .u64 (n : Int)) t 0) := by
  have := rdnum_front b n 18446744073709551615 t w h (by omega) (by decide)
  rwa [show ((18446744073709551615 : Nat) : Int) = 18446744073709551615 from rfl] at this
theorem rdtruth_front (b : Nat) (x : Bool) (t : List UInt8) (w : World) (h : RdAt w b ([if x then 1 else 0] ++ t) 0) :
    Calls Tryd.prog 85 #[.pointer (some ⟨b, 0, none⟩)] w (ReadsP w b (.bool x) t 0) := by
  refine (rdtruth_any b _ w h).mono fun e w' hw => ?_
  have hE : truE ([if x then 1 else 0] ++ t) = 0 := by cases x <;> rfl
  have hV : truV ([if x then 1 else 0] ++ t) = x := by cases x <;> rfl
  rcases hw with ⟨_, v, h1, h2, h3, h4⟩ | ⟨h1, _⟩
  · rw [hV] at h2
    subst h2
    exact ⟨h1, h3, h4⟩
  · exact absurd hE h1
theorem rdpid_front (b i k : Nat) (t : List UInt8) (w : World) (h : RdAt w b (pidL i k ++ t) 0) (hi : i < 65536) (hk : k < 4294967296) :
    Calls Tryd.prog 83 #[.pointer (some ⟨b, 0, none⟩)] w (ReadsP w b (.agg #[.int .u16 (i : Int), .int .u32 (k : Int)]) t 0) := by
  have e := pidG_put i k t hi hk
  have := rdpid_ok b _ w h (by rw [e])
  rw [e] at this
  simp only [List.drop_left] at this
  exact this
theorem rdballot_front (b r i k : Nat) (t : List UInt8) (w : World) (h : RdAt w b ((shortL r ++ pidL i k) ++ t) 0) (hr : r < 4294967296) (hi : i < 65536) (hk : k < 4294967296) :
    Calls Tryd.prog 84 #[.pointer (some ⟨b, 0, none⟩)] w (ReadsP w b (.agg #[.int .u32 (r : Int), .int .u16 (i : Int), .int .u32 (k : Int)]) t 0) := by
  rw [List.append_assoc] at h
  have e := pidG_put i k t hi hk
  have hr' : r < 18446744073709551616 := by omega
  have e1 := numE_front r 4294967295 (pidL i k ++ t) hr' (by omega)
  have e2 := rest_front r (pidL i k ++ t) hr'
  have e3 := getF_short r (pidL i k ++ t) hr'
  have hE : balE (shortL r ++ (pidL i k ++ t)) = 0 := by
    unfold balE
    rw [if_pos e1, e2, e]
  refine (rdballot_any b _ w h).mono fun e' w' hw => ?_
  rcases hw with ⟨_, v, h1, h2, h3, h4⟩ | ⟨h1, _⟩
  · rw [e2, e] at h2 h3
    rw [e3] at h2
    simp only [List.drop_left] at h3
    subst h2
    exact ⟨h1, h3, h4⟩
  · exact absurd hE h1
/-- Bytes that are read, in memory of their own. -/
def ReadsB (w : World) (b n : Nat) (l t : List UInt8) (e : Ending) (w' : World) : Prop := ∃ A c, e = .returned (.slice A n c) ∧ OwnB w' w.heap.size (.slice A n c) n l ∧ RdAt w' b t 0 ∧ Turn w w' b none
theorem rdbytes_front (b n : Nat) (most : Int) (l t : List UInt8) (w : World) (h : RdAt w b ((shortL n ++ l) ++ t) 0) (hl : l.length = n) (h0 : 0 ≤ most) (hm : (n : Int) ≤ most) (hmost : most ≤ 1000000) (ht : t.length ≤ 10000000) :
    Calls Tryd.prog 88 #[.pointer (some ⟨b, 0, none⟩), .int .i64 most] w (ReadsB w b n l t) := by
  rw [List.append_assoc] at h
  have hn : n < 18446744073709551616 := by omega
  have hmf : n ≤ mostF most := by unfold mostF; omega
  have e1 := numE_front n (mostF most) (l ++ t) hn hmf
  have e2 := rest_front n (l ++ t) hn
  have e3 := getF_short n (l ++ t) hn
  have hE : bytE (shortL n ++ (l ++ t)) (mostF most) = 0 := by
    unfold bytE
    rw [if_pos e1, e2, e3]
    rw [if_neg (by simp only [List.length_append]; omega)]
  have hV : bytV (shortL n ++ (l ++ t)) = l := by
    unfold bytV
    rw [e2, e3, ← hl]
    exact List.take_left
  have hR : bytR (shortL n ++ (l ++ t)) = t := by
    unfold bytR
    rw [e2, e3, ← hl]
    exact List.drop_left
  have h10 := (shortL_len n).2
  refine (rdbytes_any b _ most w h (by omega) (by omega) (by rw [List.length_append, List.length_append]; omega)).mono fun e' w' hw => ?_
  rcases hw with ⟨_, v, h1, h2, h3, h4⟩ | ⟨h1, _⟩
  · rw [hV] at h2
    rw [hR] at h3
    obtain ⟨A, c, rfl, hO⟩ := h2
    rw [hl] at h1 hO
    exact ⟨A, c, h1, hO, h3, h4⟩
  · exact absurd hE h1
/-- Processes that are read, in memory of their own. -/
def ReadsPs (w : World) (b n : Nat) (l : List Pr) (t : List UInt8) (e : Ending) (w' : World) : Prop := ∃ A c, e = .returned (.slice A n c) ∧ OwnP w' w.heap.size (.slice A n c) n l ∧ RdAt w' b t 0 ∧ Turn w w' b none
theorem rdpids_front (b n : Nat) (most : Int) (l : List Pr) (t : List UInt8) (w : World) (h : RdAt w b ((shortL n ++ pidsL l) ++ t) 0) (hl : l.length = n) (h0 : 0 ≤ most) (hm : (n : Int) ≤ most) (hmost : most ≤ 1000000) :
    Calls Tryd.prog 54 #[.pointer (some ⟨b, 0, none⟩), .int .i64 most] w (ReadsPs w b n l t) := by
  rw [List.append_assoc] at h
  have hn : n < 18446744073709551616 := by omega
  have hmf : n ≤ mostF most := by unfold mostF; omega
  have e1 := numE_front n (mostF most) (pidsL l ++ t) hn hmf
  have e2 := rest_front n (pidsL l ++ t) hn
  have e3 := getF_short n (pidsL l ++ t) hn
  have e4 := prd_pids l t
  rw [hl] at e4
  have hE : psE (shortL n ++ (pidsL l ++ t)) (mostF most) = 0 := by
    unfold psE
    rw [if_pos e1, e2, e3, e4]
  have hV : psV (shortL n ++ (pidsL l ++ t)) = l := by
    unfold psV
    rw [e2, e3, e4]
  have hR : psR (shortL n ++ (pidsL l ++ t)) = t := by
    unfold psR
    rw [e2, e3, e4]
  refine (rdpids_any b _ most w h (by omega) hmost).mono fun e' w' hw => ?_
  rcases hw with ⟨_, v, h1, h2, h3, h4⟩ | ⟨h1, _⟩
  · rw [hV] at h2
    rw [hR] at h3
    obtain ⟨A, c, rfl, hO⟩ := h2
    rw [hl] at h1 hO
    exact ⟨A, c, h1, hO, h3, h4⟩
  · exact absurd hE h1
end Go.Proofs.YtjmkecaljkcoiaaDoor
namespace Go.Proofs.YtjmkecaljkcoiaaDoor
open Go.RowKit
set_option linter.unusedVariables false

theorem short_cancel {x y : Nat} {s t : List UInt8} (hx : x < 18446744073709551616) (hy : y < 18446744073709551616) (h : shortL x ++ s = shortL y ++ t) : x = y ∧ s = t := by
  have h1 := getF_short x s hx
  have h2 := getF_short y t hy
  rw [h, h2] at h1
  simp only [Prod.mk.injEq] at h1
  obtain rfl := h1.1
  exact ⟨rfl, List.append_cancel_left h⟩
theorem pid_cancel {i c j d : Nat} {s t : List UInt8} (hi : i < 65536) (hc : c < 4294967296) (hj : j < 65536) (hd : d < 4294967296) (h : pidL i c ++ s = pidL j d ++ t) : i = j ∧ c = d ∧ s = t := by
  unfold pidL at h
  rw [List.append_assoc, List.append_assoc] at h
  obtain ⟨h1, h2⟩ := short_cancel (by omega) (by omega) h
  obtain ⟨h3, h4⟩ := short_cancel (by omega) (by omega) h2
  exact ⟨h1, h3, h4⟩
theorem pids_cancel : ∀ (l m : List Pr) (s t : List UInt8), l.length = m.length → pidsL l ++ s = pidsL m ++ t → l = m ∧ s = t
  | [], [], s, t, _, h => ⟨rfl, by simpa [pidsL] using h⟩
  | [], _ :: _, _, _, h, _ => by simp at h
  | _ :: _, [], _, _, h, _ => by simp at h
  | p :: l, q :: m, s, t, hl, h => by
    rw [pidsL_cons, pidsL_cons, List.append_assoc, List.append_assoc] at h
    obtain ⟨h1, h2, h3⟩ := pid_cancel p.hi p.hk q.hi q.hk h
    obtain ⟨h4, h5⟩ := pids_cancel l m s t (by simpa using hl) h3
    exact ⟨by rw [Pr.ext h1 h2, h4], h5⟩
theorem rk_cancel (mem : List Pr) (hm : mem.length ≤ 1000) : ∀ (l m : List Pr) (s t : List UInt8), l.length = m.length → (∀ p ∈ l, p ∈ mem) → (∀ p ∈ m, p ∈ mem) → rkL mem l ++ s = rkL mem m ++ t → l = m ∧ s = t
  | [], [], s, t, _, _, _, h => ⟨rfl, by simpa [rkL] using h⟩
  | [], _ :: _, _, _, h, _, _, _ => by simp at h
  | _ :: _, [], _, _, h, _, _, _ => by simp at h
  | p :: l, q :: m, s, t, hl, h1, h2, h => by
    rw [rkL, rkL, List.append_assoc, List.append_assoc] at h
    have hp := h1 p (by simp)
    have hq := h2 q (by simp)
    have b1 := plc_lt hp
    have b2 := plc_lt hq
    obtain ⟨e1, e2⟩ := short_cancel (by omega) (by omega) h
    obtain ⟨e3, e4⟩ := rk_cancel mem hm l m s t (by simpa using hl) (fun x hx => h1 x (List.mem_cons_of_mem _ hx)) (fun x hx => h2 x (List.mem_cons_of_mem _ hx)) e2
    exact ⟨by rw [plc_inj hp hq e1, e3], e4⟩
theorem some_cancel {mem l m : List Pr} {s t : List UInt8} (hm : mem.length ≤ 1000) (h1 : RiseP mem l) (h2 : RiseP mem m) (h : someL mem l ++ s = someL mem m ++ t) : l = m ∧ s = t := by
  unfold someL at h
  rw [List.append_assoc, List.append_assoc] at h
  have b1 := h1.len
  have b2 := h2.len
  obtain ⟨e1, e2⟩ := short_cancel (by omega) (by omega) h
  exact rk_cancel mem hm l m s t e1 h1.1 h2.1 e2
theorem lvs_cancel (mem : List Pr) (hm : mem.length ≤ 1000) : ∀ (l m : List (List Pr)) (s t : List UInt8), l.length = m.length → (∀ x ∈ l, RiseP mem x) → (∀ x ∈ m, RiseP mem x) → lvsL mem l ++ s = lvsL mem m ++ t → l = m ∧ s = t
  | [], [], s, t, _, _, _, h => ⟨rfl, by simpa [lvsL] using h⟩
  | [], _ :: _, _, _, h, _, _, _ => by simp at h
  | _ :: _, [], _, _, h, _, _, _ => by simp at h
  | p :: l, q :: m, s, t, hl, h1, h2, h => by
    rw [lvsL, lvsL, List.append_assoc, List.append_assoc] at h
    obtain ⟨e1, e2⟩ := some_cancel hm (h1 p (by simp)) (h2 q (by simp)) h
    obtain ⟨e3, e4⟩ := lvs_cancel mem hm l m s t (by simpa using hl) (fun x hx => h1 x (List.mem_cons_of_mem _ hx)) (fun x hx => h2 x (List.mem_cons_of_mem _ hx)) e2
    exact ⟨by rw [e1, e3], e4⟩
theorem LeavesP.few9 {mem : List Pr} {lvs : List (List Pr)} (h : LeavesP mem lvs) : lvs.length ≤ mem.length := by
  have := h.firsts.len
  rwa [firstsP_len] at this
/-- No view's form is the beginning of another one's. -/
theorem view_cancel {u v : Vi} {s t : List UInt8} (hu : MayV u) (hv : MayV v) (h : viewL u ++ s = viewL v ++ t) : u = v ∧ s = t := by
  unfold viewL at h
  simp only [List.append_assoc] at h
  have b1 := hu.hi
  have b2 := hv.hi
  have b3 := hu.mem.most
  have b4 := hv.mem.most
  have b5 := hu.lvs.few9
  have b6 := hv.lvs.few9
  obtain ⟨e1, h⟩ := short_cancel (by omega) (by omega) h
  obtain ⟨e2, h⟩ := short_cancel (by omega) (by omega) h
  obtain ⟨e3, h⟩ := pids_cancel _ _ _ _ e2 h
  obtain ⟨e4, h⟩ := short_cancel (by omega) (by omega) h
  rw [e3] at h
  obtain ⟨e5, h⟩ := lvs_cancel v.mem (by omega) _ _ _ _ e4 (fun x hx => by rw [← e3]; exact (hu.lvs.each x hx).2) (fun x hx => (hv.lvs.each x hx).2) h
  obtain ⟨e6, h⟩ := some_cancel (by omega) (by rw [← e3]; exact hu.ldr) hv.ldr h
  refine ⟨?_, h⟩
  cases u
  cases v
  simp only at e1 e3 e5 e6
  subst e1 e3 e5 e6
  rfl

/-- A command in plain words. -/
structure Cm where
  kind : Int
  p : Pr
  num : Nat
  vn : Nat
  d : List UInt8
  v : Vi
/-- No view. -/
def noV : Vi := ⟨0, [], [], []⟩
/-- A command that has a kind and a view alone. -/
def zC (k : Int) (v : Vi) : Cm := ⟨k, default, 0, 0, [], v⟩
def cntsP (n : Nat) : Prop := 1 ≤ n ∧ n ≤ 4611686018427387904
/-- A command may be, but for how long its data is. -/
def ButLen (c : Cm) : Prop := (c.kind = 1 ∧ c = zC 1 noV) ∨ (c.kind = 2 ∧ mayP c.p = true ∧ cntsP c.num ∧ cntsP c.vn ∧ c.v = noV) ∨ (c.kind = 3 ∧ MayV c.v ∧ c = zC 3 c.v)
structure MayC (c : Cm) : Prop where
  but : ButLen c
  short : c.d.length ≤ 200
/-- What Check answers. -/
def ckE (t : Bool) (n : Nat) : Int := if t then (if 200 < n then 14 else 0) else 1
theorem ckE_may {c : Cm} {t : Bool} (ht : t = true ↔ ButLen c) : ckE t c.d.length = 0 ↔ MayC c := by
  cases t
  · exact ⟨fun h => by simp [ckE] at h, fun h => by have := ht.2 h.but; cases this⟩
  · by_cases hn : 200 < c.d.length
    · exact ⟨fun h => by simp [ckE, hn] at h, fun h => by have := h.short; omega⟩
    · exact ⟨fun _ => ⟨ht.1 rfl, by omega⟩, fun _ => by simp [ckE, hn]⟩
/-- What stands behind the kind. -/
def tailC (c : Cm) : List UInt8 := if c.kind = 2 then pidL c.p.i c.p.k ++ (shortL c.num ++ (shortL c.vn ++ (shortL c.d.length ++ c.d))) else if c.kind = 3 then viewL c.v else []
/-- A command's form. -/
def formC (c : Cm) : List UInt8 := shortL c.kind.toNat ++ tailC c
theorem ButLen.kind {c : Cm} (h : ButLen c) : c.kind = 1 ∨ c.kind = 2 ∨ c.kind = 3 := by
  rcases h with h | h | h
  · exact .inl h.1
  · exact .inr (.inl h.1)
  · exact .inr (.inr h.1)
theorem Cm.ext' {a b : Cm} (h0 : a.kind = b.kind) (h1 : a.p = b.p) (h2 : a.num = b.num) (h3 : a.vn = b.vn) (h4 : a.d = b.d) (h5 : a.v = b.v) : a = b := by
  cases a; cases b; simp only at h0 h1 h2 h3 h4 h5; subst h0; subst h1; subst h2; subst h3; subst h4; subst h5; rfl
/-- Unlike commands have unlike forms, and none is the beginning of another one. -/
theorem form_cancel {a b : Cm} {s t : List UInt8} (ha : MayC a) (hb : MayC b) (h : formC a ++ s = formC b ++ t) : a = b ∧ s = t := by
  unfold formC at h
  simp only [List.append_assoc] at h
  have ka := ha.but.kind
  have kb := hb.but.kind
  obtain ⟨e1, h⟩ := short_cancel (by omega) (by omega) h
  have hk : a.kind = b.kind := by omega
  have la := ha.short
  have lb := hb.short
  rcases ha.but with ⟨h0, h1⟩ | ⟨h0, h1, h2, h3, h4⟩ | ⟨h0, h1, h2⟩
  · rcases hb.but with ⟨g0, g1⟩ | ⟨g0, g1, g2, g3, g4⟩ | ⟨g0, g1, g2⟩
    · unfold tailC at h
      rw [h0, g0] at h
      simp at h
      exact ⟨by rw [h1, g1], h⟩
    · omega
    · omega
  · rcases hb.but with ⟨g0, g1⟩ | ⟨g0, g1, g2, g3, g4⟩ | ⟨g0, g1, g2⟩
    · omega
    · unfold tailC at h
      rw [h0, g0] at h
      simp only [if_true, List.append_assoc] at h
      have b2 := h2.2
      have b3 := h3.2
      have b4 := g2.2
      have b5 := g3.2
      obtain ⟨e2, e3, h⟩ := pid_cancel a.p.hi a.p.hk b.p.hi b.p.hk h
      obtain ⟨e4, h⟩ := short_cancel (by omega) (by omega) h
      obtain ⟨e5, h⟩ := short_cancel (by omega) (by omega) h
      obtain ⟨e6, h⟩ := short_cancel (by omega) (by omega) h
      obtain ⟨e7, e8⟩ := List.append_inj h e6
      exact ⟨Cm.ext' hk (Pr.ext e2 e3) e4 e5 e7 (by rw [h4, g4]), e8⟩
    · omega
  · rcases hb.but with ⟨g0, g1⟩ | ⟨g0, g1, g2, g3, g4⟩ | ⟨g0, g1, g2⟩
    · omega
    · omega
    · unfold tailC at h
      rw [h0, g0] at h
      simp only [show ¬ (3 : Int) = 2 by omega, if_false, if_true] at h
      obtain ⟨e2, h⟩ := view_cancel h1 g1 h
      exact ⟨by rw [h2, g2, e2], h⟩
theorem formC_pos (c : Cm) : 0 < (formC c).length := by
  have := (shortL_len c.kind.toNat).1
  unfold formC
  rw [List.length_append]
  omega
end Go.Proofs.YtjmkecaljkcoiaaDoor
