/-
  A Reader's methods wherever it stands: read, stopped now, or stopped before.
-/
import Derived.Test.YtdmihbicpjmgjaaQRdS
namespace Go.Proofs.Ytdmihbicpjmgjaa
open Go.RowKit Go.Maps
set_option linter.unusedVariables false
set_option linter.unusedSimpArgs false

theorem rdnum_tot (b most : Nat) (s : RS) (w : World) (h : RdAt w b s.l s.t) (hm : most < 18446744073709551616) :
    Calls Try.prog 36 #[.pointer (some ⟨b, 0, none⟩), .int .u64 (most : Int)] w (ReadsP w b (.int .u64 ((numS most s).1 : Nat)) (numS most s).2.l (numS most s).2.t) := by
  obtain ⟨l, t⟩ := s
  dsimp only at h
  by_cases ht : t = 0
  · subst ht
    by_cases hE : numE l most = 0
    · have e : numS most ⟨l, 0⟩ = ((getF l).1, ⟨l.drop (getF l).2.1, 0⟩) := by unfold numS; rw [if_pos rfl, if_pos hE]
      rw [e]
      exact rdnum_ok b l most w h hm hE
    · have e : numS most ⟨l, 0⟩ = (0, ⟨l, numE l most⟩) := by unfold numS; rw [if_pos rfl, if_neg hE]
      rw [e]
      exact rdnum_bad b l most w h hm hE
  · rw [numS_stop (s := ⟨l, t⟩) ht]
    exact rdnum_stop b t l most w h ht
theorem rdpid_tot (b : Nat) (s : RS) (w : World) (h : RdAt w b s.l s.t) :
    Calls Try.prog 37 #[.pointer (some ⟨b, 0, none⟩)] w (ReadsP w b (.agg #[.int .u16 ((pidS s).1.i : Int), .int .u32 ((pidS s).1.k : Int)]) (pidS s).2.l (pidS s).2.t) := by
  obtain ⟨l, t⟩ := s
  dsimp only at h
  by_cases ht : t = 0
  · subst ht
    by_cases hE : (pidG l).2.2.2 = 0
    · have e : pidS ⟨l, 0⟩ = (prOf l, ⟨l.drop (pidG l).2.2.1, 0⟩) := by unfold pidS; rw [if_pos rfl, if_pos hE]
      rw [e]
      exact rdpid_ok b l w h hE
    · have e : pidS ⟨l, 0⟩ = (default, ⟨l, (pidG l).2.2.2⟩) := by unfold pidS; rw [if_pos rfl, if_neg hE]
      rw [e]
      exact rdpid_bad b l w h hE
  · rw [pidS_stop (s := ⟨l, t⟩) ht]
    exact rdpid_stop b t l w h ht
def BytT (w : World) (b : Nat) (r : List UInt8 × RS) (e : Ending) (w' : World) : Prop := ∃ A c, e = .returned (.slice A r.1.length c) ∧ OwnB w' w.heap.size (.slice A r.1.length c) r.1.length r.1 ∧ RdAt w' b r.2.l r.2.t ∧ Turn w w' b none
theorem rdbytes_tot (b : Nat) (most : Nat) (s : RS) (w : World) (h : RdAt w b s.l s.t) (hm : most ≤ 1000000) (hl : s.l.length ≤ 100000000000) :
    Calls Try.prog 38 #[.pointer (some ⟨b, 0, none⟩), .int .i64 (most : Int)] w (BytT w b (bytS most s)) := by
  obtain ⟨l, t⟩ := s
  dsimp only at h hl
  have hmf : mostF (most : Int) = most := by unfold mostF; simp
  by_cases ht : t = 0
  · subst ht
    refine (rdbytes_any b l most w h (by omega) (by omega) hl).mono fun e w' hw => ?_
    rw [hmf] at hw
    rcases hw with ⟨hE, v, h1, ⟨A, c, h2, h3⟩, h4, h5⟩ | ⟨hE, h1, h2, h3⟩
    · have e : bytS most ⟨l, 0⟩ = (bytV l, ⟨bytR l, 0⟩) := by unfold bytS; rw [if_pos rfl, if_pos hE]
      rw [e]
      exact ⟨A, c, by rw [h1, h2], h3, h4, h5⟩
    · have e : bytS most ⟨l, 0⟩ = ([], ⟨l, bytE l most⟩) := by unfold bytS; rw [if_pos rfl, if_neg hE]
      rw [e]
      exact ⟨none, 0, h1, OwnB.nil_ _ _, h2, h3⟩
  · rw [bytS_stop (s := ⟨l, t⟩) ht]
    exact (rdbytes_stop b t l most w h ht).mono fun e w' ⟨h1, h2, h3⟩ => ⟨none, 0, h1, OwnB.nil_ _ _, h2, h3⟩
def PidsT (w : World) (b : Nat) (r : List Pr × RS) (e : Ending) (w' : World) : Prop := ∃ A c, e = .returned (.slice A r.1.length c) ∧ OwnP w' w.heap.size (.slice A r.1.length c) r.1.length r.1 ∧ RdAt w' b r.2.l r.2.t ∧ Turn w w' b none
theorem rdpids_tot (b : Nat) (most : Nat) (s : RS) (w : World) (h : RdAt w b s.l s.t) (hm : most ≤ 1000000) :
    Calls Try.prog 71 #[.pointer (some ⟨b, 0, none⟩), .int .i64 (most : Int)] w (PidsT w b (pidsS most s)) := by
  obtain ⟨l, t⟩ := s
  dsimp only at h
  have hmf : mostF (most : Int) = most := by unfold mostF; simp
  by_cases ht : t = 0
  · subst ht
    refine (rdpids_any b l most w h (by omega) (by omega)).mono fun e w' hw => ?_
    rw [hmf] at hw
    rcases hw with ⟨hE, v, h1, ⟨A, c, h2, h3⟩, h4, h5⟩ | ⟨hE, h1, h2, h3⟩
    · have e : pidsS most ⟨l, 0⟩ = (psV l, ⟨psR l, 0⟩) := by unfold pidsS; rw [if_pos rfl, if_pos hE]
      rw [e]
      exact ⟨A, c, by rw [h1, h2], h3, h4, h5⟩
    · have e : pidsS most ⟨l, 0⟩ = ([], ⟨l, psE l most⟩) := by unfold pidsS; rw [if_pos rfl, if_neg hE]
      rw [e]
      exact ⟨none, 0, h1, OwnE.nil_ _ _, h2, h3⟩
  · rw [pidsS_stop (s := ⟨l, t⟩) ht]
    exact (rdpids_stop b t l most w h ht).mono fun e w' ⟨h1, h2, h3⟩ => ⟨none, 0, h1, OwnE.nil_ _ _, h2, h3⟩
end Go.Proofs.Ytdmihbicpjmgjaa
