import Derived.Deep.RegionHeld3
import Derived.IntWalk
import Derived.Test.YtjmkecaljkcoiaaDoorQRd3
namespace Go.Proofs.YtjmkecaljkcoiaaDoor
open Go.RowKit
set_option linter.unusedVariables false
set_option linter.unusedSimpArgs false
theorem rdnum_ok (b : Nat) (l : List UInt8) (most : Nat) (w : World) (h : RdAt w b l 0) (hm : most < 18446744073709551616) (hE : numE l most = 0) :
    Calls Tryd.prog 52 #[.pointer (some ⟨b, 0, none⟩), .int .u64 (most : Int)] w (ReadsP w b (.int .u64 ((getF l).1 : Nat)) (l.drop (getF l).2.1) 0) :=
  (rdnum_any b l most w h hm).mono fun e w' hw => by
    rcases hw with ⟨_, v, h1, rfl, h3, h4⟩ | ⟨h1, _⟩
    · exact ⟨h1, h3, h4⟩
    · exact absurd hE h1
theorem rdnum_bad (b : Nat) (l : List UInt8) (most : Nat) (w : World) (h : RdAt w b l 0) (hm : most < 18446744073709551616) (hE : numE l most ≠ 0) :
    Calls Tryd.prog 52 #[.pointer (some ⟨b, 0, none⟩), .int .u64 (most : Int)] w (ReadsP w b (.int .u64 0) l (numE l most)) :=
  (rdnum_any b l most w h hm).mono fun e w' hw => by
    rcases hw with ⟨h1, _⟩ | ⟨_, h1, h2, h3⟩
    · exact absurd h1 hE
    · exact ⟨h1, h2, h3⟩
theorem rdpid_ok (b : Nat) (l : List UInt8) (w : World) (h : RdAt w b l 0) (hE : (pidG l).2.2.2 = 0) :
    Calls Tryd.prog 83 #[.pointer (some ⟨b, 0, none⟩)] w (ReadsP w b (.agg #[.int .u16 ((pidG l).1 : Nat), .int .u32 ((pidG l).2.1 : Nat)]) (l.drop (pidG l).2.2.1) 0) :=
  (rdpid_any b l w h).mono fun e w' hw => by
    rcases hw with ⟨_, v, h1, rfl, h3, h4⟩ | ⟨h1, _⟩
    · exact ⟨h1, h3, h4⟩
    · exact absurd hE h1
theorem rdpid_bad (b : Nat) (l : List UInt8) (w : World) (h : RdAt w b l 0) (hE : (pidG l).2.2.2 ≠ 0) :
    Calls Tryd.prog 83 #[.pointer (some ⟨b, 0, none⟩)] w (ReadsP w b (.agg #[.int .u16 0, .int .u32 0]) l (pidG l).2.2.2) :=
  (rdpid_any b l w h).mono fun e w' hw => by
    rcases hw with ⟨h1, _⟩ | ⟨_, h1, h2, h3⟩
    · exact absurd h1 hE
    · exact ⟨h1, h2, h3⟩
theorem numE_le {l : List UInt8} {most : Nat} (h : numE l most = 0) : (getF l).1 ≤ most := by
  unfold numE at h
  split at h
  · split at h
    · cases h
    · omega
  · rename_i h1
    exact absurd h h1
def balE (l : List UInt8) : Nat := if numE l 4294967295 = 0 then (pidG (l.drop (getF l).2.1)).2.2.2 else numE l 4294967295
def Bal1P (w : World) (b : Nat) (l : List UInt8) : Ending → World → Prop := CloP w b (fun v _ => ∃ (r i k : Nat), v = .agg #[.int .u32 (r : Int), .int .u16 (i : Int), .int .u32 (k : Int)]) (fun v _ => v = .agg #[.int .u32 (((getF l).1 : Nat) : Int), .int .u16 (((pidG (l.drop (getF l).2.1)).1 : Nat) : Int), .int .u32 (((pidG (l.drop (getF l).2.1)).2.1 : Nat) : Int)]) ((l.drop (getF l).2.1).drop (pidG (l.drop (getF l).2.1)).2.2.1) (balE l)
def bytE (l : List UInt8) (most : Nat) : Nat := if numE l most = 0 then (if (l.drop (getF l).2.1).length < (getF l).1 then 2 else 0) else numE l most
def bytV (l : List UInt8) : List UInt8 := (l.drop (getF l).2.1).take (getF l).1
def bytR (l : List UInt8) : List UInt8 := (l.drop (getF l).2.1).drop (getF l).1
def GB (base : Nat) (L : List UInt8) (v : Value) (w : World) : Prop := ∃ A c, v = .slice A L.length c ∧ OwnB w base (.slice A L.length c) L.length L
theorem OwnB.setLow {w : World} {base n : Nat} {v : Value} {l : List UInt8} (h : OwnB w base v n l) {p : Addr} (hp : p.block < base) (u : Value) : OwnB (w.setCell p u) base v n l := by
  refine ⟨h.1, ?_⟩
  rcases h.2 with h0 | ⟨g, cap, cur, rfl, hb, hh, r⟩
  · exact .inl h0
  · exact .inr ⟨g, cap, cur, rfl, hb, (Below.heap_setCell w p u g (by omega)).trans hh, r⟩
theorem GB.set_ {base : Nat} {L : List UInt8} {v : Value} {w : World} (h : GB base L v w) {p : Addr} (hp : p.block < base) (u : Value) : GB base L v (w.setCell p u) := by
  obtain ⟨A, c, e, h⟩ := h
  exact ⟨A, c, e, h.setLow hp u⟩
theorem GB.mono {base base' : Nat} {L : List UInt8} {v : Value} {w : World} (h : GB base L v w) (hb : base' ≤ base) : GB base' L v w := by
  obtain ⟨A, c, e, h⟩ := h
  exact ⟨A, c, e, h.mono hb⟩
def Byt1P (w : World) (b base : Nat) (l : List UInt8) (most : Nat) : Ending → World → Prop := CloP w b (fun v _ => ∃ (V : Option Addr) (m d : Nat), v = .slice V m d) (GB base (bytV l)) (bytR l) (bytE l most)
theorem rdAt_drew {w : World} {b t : Nat} {l : List UInt8} (h : RdAt w b l t) : RdAt w.drew b l t := h
end Go.Proofs.YtjmkecaljkcoiaaDoor
