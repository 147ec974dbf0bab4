/-
  Contracts of Hex and Unhex.
-/
import Derived.Laws.BytesArg
import Derived.Test.YtdmihbicpjmgjaaDoorQLent1
namespace Go.Proofs.YtdmihbicpjmgjaaDoor
open Go.RowKit
set_option linter.unusedVariables false

set_option maxRecDepth 100000 in
theorem conv_own {w : World} {base q c : Nat} {A : Option Addr} {l : List UInt8} (h : OwnB w base (.slice A q c) q l) :
    (convert 27 9 (.slice A q c)).run Tryd.prog w = .ok (.string ⟨l.toArray⟩) w := by
  have hl := h.len
  rcases h.2 with ⟨hv, h0⟩ | ⟨g, cap, cur, hv, _⟩
  · injection hv with h1 h2 h3
    subst h1; subst h3
    subst h0
    obtain rfl := List.eq_nil_of_length_eq_zero hl
    exact run_convert_bytes_nil w 27 5 Tryd.underlying27 Tryd.underlying5 0 0 9 Tryd.underlying9
  · injection hv with h1 h2 h3
    subst h1
    subst hl
    exact run_convert_bytes_back w 27 9 5 ⟨g, 0, none⟩ c l Tryd.underlying27 Tryd.underlying5 Tryd.underlying9 (fun j hj => by
      obtain ⟨ad, hjl, e1, _, hc⟩ := h.bs.at_ hj
      obtain rfl := Option.some.inj e1
      exact hc)

set_option maxRecDepth 100000 in
theorem hex_any (A : Option Addr) (n c : Nat) (l : List UInt8) (B : Nat) (w : World) (hA : Bs w B A n l) (hB : B ≤ w.heap.size) (hn : n ≤ 1048576) :
    Calls Tryd.prog 16 #[.slice A n c] w fun e w' => e = .returned (.string ⟨(hexL l).toArray⟩) ∧ Below w.heap.size w w' := by
  have hmk := fun W => mk_bytes 0 (2 * n) (2 * (n : Int)) (by omega) (by omega) (by omega) W
  rw [show ((0 : Nat) : Int) = 0 from rfl] at hmk
  have hlen := hA.len
  have HL := hide hlen
  clear hlen
  go_enter Tryd.func16, Tryd.ntmps16
  go_wp2
  go_loopw [3, 12] (fun v i wr => ∃ j q : Nat, ∃ A' c', j ≤ n ∧ i = .int .i64 j ∧ v = .slice A' q c' ∧ q = 2 * j ∧ OwnB wr w.heap.size (.slice A' q c') q (hexL (l.take j)) ∧ Below w.heap.size w wr) (fun _ i _ => n - (intOf i).toNat)
  case atStart =>
    refine ⟨0, 0, _, _, Nat.zero_le _, rfl, rfl, rfl, ?_, (Below.refl _ _).alloc (Nat.le_refl _) _⟩
    exact own_of_cells (heap_alloc_new w _) (Nat.le_refl _) (by omega) (by unfold maxLen; omega) (zeroBytes_len _) (by simp [hexL, bvs]) (by simp [hexL, bvs])
  case round =>
    obtain ⟨j, q, A', c', hj, rfl, rfl, hq, hown, hb⟩ := hrel
    by_cases hlt : j < n
    · obtain ⟨ad, hjl, rfl, hbl, hc⟩ := hA.at_ hlt
      have hc' := (hb.cell (by rw [block_of_add]; omega)).trans hc
      unfold byteV at hc'
      clear hc
      obtain ⟨y, hy⟩ : ∃ y, y = l[j].toNat := ⟨_, rfl⟩
      rw [← hy] at hc'
      have hy256 : y < 256 := by rw [hy]; exact l[j].toNat_lt
      have hs : hexL (l.take (j + 1)) = hexL (l.take j) ++ [hexD (y / 16), hexD (y % 16)] := by rw [take_snoc hjl, hexL_snoc, ← hy]
      have e15 : bits .and .u8 (y : Int) 15 = ((y % 16 : Nat) : Int) := by
        have := u8_and_nat y 15 hy256 (by omega)
        rw [show ((15 : Nat) : Int) = 15 from rfl, nat_mask4] at this
        exact this
      have i1 := fun W => idx_tab ((y : Int) / 16) (y / 16) (by omega) (by omega) W
      have i2 := fun W => idx_tab (bits .and .u8 (y : Int) 15) (y % 16) e15 (by omega) W
      obtain ⟨d1, hd1⟩ : ∃ d, d = hexD (y / 16) := ⟨_, rfl⟩
      obtain ⟨d2, hd2⟩ : ∃ d, d = hexD (y % 16) := ⟨_, rfl⟩
      rw [← hd1] at i1 hs
      rw [← hd2] at i2 hs
      have hq2 : q ≤ 2 * j := by omega
      have hsz := hb.size
      have HS := hide hs
      have HQ := hide hq
      clear hs hy e15 hd1 hd2 hq
      go_wp2_with fail
      go_region_held3 (fun _ => True) (trivial)
        ((refine step_bytes_own _ (by rfl) _ _ (by rfl) w.heap.size q _ (hexL (l.take j)) (by rfl) ((hown.alloc _).drew) _ (some ⟨wr.heap.size, 0, none⟩) 2 2 [d1, d2] (by rfl) ((own_lit wr 0 2 [d1, d2] _ (by rfl) rfl (by decide) (Nat.zero_le _)).drew).bs (by omega) w.heap.size w (((hb.alloc hsz _)).drew) (Nat.le_refl _) (by simp; omega) ?_; intro A2 c2 w2 hown2 hb2 hsz2))
      all_goals
        go_wp2
        go_roundw
        case rel => exact ⟨j + 1, q + 2, A2, c2, by omega, by go_num, rfl, by rw [HQ.out]; omega, by rw [HS.out]; exact hown2, hb2⟩
        case measure => simp [intOf]; omega
    · obtain rfl : j = n := by omega
      have hcv := conv_own hown
      rw [List.take_of_length_le (by rw [HL.out]; omega)] at hcv
      have HQ := hide hq
      clear hq hown
      go_wp2
      go_ret
      exact ⟨rfl, hb⟩

theorem add_str (L M : List UInt8) (a b c : ByteArray) (ha : a = ⟨L.toArray⟩) (hb : b = ⟨M.toArray⟩) (hc : c = ⟨(L ++ M).toArray⟩) (hs : L.length + M.length ≤ 9223372036854775807) (W : World) :
    (Op.stringOp .add a b).run Tryd.prog W = .ok (.string c) W := by
  subst ha; subst hb; subst hc
  rw [run_string_add_sum W _ _ (by simpa [ByteArray.size] using hs), ByteArray.mk_append_mk]

set_option maxRecDepth 100000 in
theorem rhex_any (A : Option Addr) (n c : Nat) (l : List UInt8) (B : Nat) (w : World) (hA : Bs w B A n l) (hn : n ≤ 1048576) :
    Calls Tryd.prog 21 #[.slice A n c] w fun e w' => e = .returned (.string ⟨(hexL l).toArray⟩) ∧ Drawn w w' := by
  have hlen := hA.len
  have HL := hide hlen
  clear hlen
  go_enter Tryd.func21, Tryd.ntmps21
  go_wp2
  go_loopw [3, 4] (fun v i wr => ∃ j : Nat, ∃ s : ByteArray, j ≤ n ∧ i = .int .i64 j ∧ v = .string s ∧ s = ⟨(hexL (l.take j)).toArray⟩ ∧ Drawn w wr) (fun _ i _ => n - (intOf i).toNat)
  case atStart => exact ⟨0, _, Nat.zero_le _, rfl, rfl, by simp [hexL], Drawn.refl _⟩
  case round =>
    obtain ⟨j, s, hj, rfl, rfl, hs, ⟨nq0, rfl⟩⟩ := hrel
    by_cases hlt : j < n
    · have hltI : (j : Int) < (n : Int) := by omega
      obtain ⟨ad, hjl, rfl, hbl, hc⟩ := hA.at_ hlt
      unfold byteV at hc
      obtain ⟨y, hy⟩ : ∃ y, y = l[j].toNat := ⟨_, rfl⟩
      rw [← hy] at hc
      have hy256 : y < 256 := by rw [hy]; exact l[j].toNat_lt
      have hx : hexL (l.take (j + 1)) = (hexL (l.take j) ++ [hexD (y / 16)]) ++ [hexD (y % 16)] := by rw [take_snoc hjl, hexL_snoc, ← hy, List.append_assoc]; rfl
      have hll : (hexL (l.take j)).length ≤ 2 * n := by rw [hexL_len, List.length_take]; omega
      have i1 := fun W => sl_tab ((y : Int) / 16) ((y : Int) / 16 + 1) (y / 16) (by omega) (by omega) (by omega) W
      have i2 := fun W => sl_tab ((y : Int) % 16) ((y : Int) % 16 + 1) (y % 16) (by omega) (by omega) (by omega) W
      obtain ⟨d1, hd1⟩ : ∃ d, d = hexD (y / 16) := ⟨_, rfl⟩
      obtain ⟨d2, hd2⟩ : ∃ d, d = hexD (y % 16) := ⟨_, rfl⟩
      rw [← hd1] at i1 hx
      rw [← hd2] at i2 hx
      obtain ⟨e1, he1⟩ : ∃ e : ByteArray, e = ⟨#[d1]⟩ := ⟨_, rfl⟩
      obtain ⟨e2, he2⟩ : ∃ e : ByteArray, e = ⟨#[d2]⟩ := ⟨_, rfl⟩
      obtain ⟨s1, hs1⟩ : ∃ e : ByteArray, e = ⟨(hexL (l.take j) ++ [d1]).toArray⟩ := ⟨_, rfl⟩
      obtain ⟨s2, hs2⟩ : ∃ e : ByteArray, e = ⟨((hexL (l.take j) ++ [d1]) ++ [d2]).toArray⟩ := ⟨_, rfl⟩
      have a1 := fun W => add_str (hexL (l.take j)) [d1] s e1 s1 hs he1 hs1 (by simp; omega) W
      have a2 := fun W => add_str (hexL (l.take j) ++ [d1]) [d2] s1 e2 s2 hs1 he2 hs2 (by simp; omega) W
      rw [← hx] at hs2
      rw [← he1] at i1
      rw [← he2] at i2
      have HS := hide hs2
      clear hs2 hs1 hs he1 he2 hd1 hd2 hx hy hll
      go_wp2_with fail
      go_quiet (fail)
      go_wp2
      go_roundw
      case rel => exact ⟨j + 1, s2, by omega, by go_num, rfl, HS.out, (by first | exact drawn_one _ _ | exact drawn_two _ _ _)⟩
      case measure => simp [intOf]; omega
    · have HS := hide hs
      clear hs
      go_wp2
      go_ret
      have e := HS.out
      rw [List.take_of_length_le (by rw [HL.out]; omega)] at e
      rw [← e]
      exact ⟨rfl, drawn_one _ _⟩

theorem idx_str (s : ByteArray) (l : List UInt8) (hl : l = s.data.toList) (k : Nat) (K : Int) (hK : K = (k : Int)) (h : k < l.length) (W : World) :
    (Instr.index 9 (.string s) (.int .i64 K)).run Tryd.prog W = .ok (.int .u8 (l[k].toNat : Int)) W := by
  subst hK; subst hl
  have hs : k < s.size := by rw [Array.length_toList] at h; exact h
  rw [run_index_string W 9 s .i64 _ Tryd.underlying9, dif_pos ⟨by omega, by omega⟩]
  rfl
theorem or_16 (x y : Nat) (hx : x < 16) (hy : y < 16) : bits .or .i64 ((x : Int) * 16) (y : Int) = ((x * 16 + y : Nat) : Int) := by
  have h1 : ((x : Int) * 16) = ((x * 16 : Nat) : Int) := by omega
  rw [h1]
  show IntKind.i64.wrap ((BitVec.ofInt 64 ((x * 16 : Nat) : Int) ||| BitVec.ofInt 64 (y : Int)).toNat : Int) = _
  rw [BitVec.toNat_or, BitVec.ofInt_natCast, BitVec.ofInt_natCast, BitVec.toNat_ofNat, BitVec.toNat_ofNat, Nat.mod_eq_of_lt (by omega), Nat.mod_eq_of_lt (by omega), nat_join 4 _ _ (by omega) (by omega), IntKind.wrap_i64]
  omega
theorem part_set (r : List UInt8) (N j : Nat) (x : UInt8) (hr : r.length = j) (hj : j < N) : (bvs r ++ zeroBytes (N - j)).set j (byteV x) = bvs (r ++ [x]) ++ zeroBytes (N - (j + 1)) := by
  rw [List.set_append_right _ _ (by rw [bvs_len]; omega), bvs_len, hr, Nat.sub_self, show N - j = (N - (j + 1)) + 1 from by omega, zeroBytes, List.replicate_succ, List.set_cons_zero, bvs_snoc, List.append_assoc]
  rfl
theorem part_at (r : List UInt8) (N j : Nat) (hr : r.length = j) (hj : j < N) : (bvs r ++ zeroBytes (N - j))[j]? = some (.int .u8 0) := by
  rw [List.getElem?_append_right (by rw [bvs_len]; omega), bvs_len, hr, Nat.sub_self, zeroBytes, List.getElem?_replicate, if_pos (by omega)]

/-- What Unhex answers: the bytes, in memory of its own; or the error. -/
def UnPost (w : World) (r : Option (List UInt8)) (e : Ending) (w' : World) : Prop :=
  match r with
  | some r => ∃ A c, e = .returned (.tuple #[.slice A r.length c, .int .i64 0]) ∧ OwnB w' w.heap.size (.slice A r.length c) r.length r ∧ Below w.heap.size w w'
  | none => e = .returned (.tuple #[.slice none 0 0, .int .i64 5]) ∧ Below w.heap.size w w'
theorem UnPost.mk_none {w w' : World} {e : Ending} {r : Option (List UInt8)} (hr : r = none) (h : e = .returned (.tuple #[.slice none 0 0, .int .i64 5])) (hb : Below w.heap.size w w') : UnPost w r e w' := by
  subst hr; exact ⟨h, hb⟩
theorem UnPost.mk_some {w w' : World} {e : Ending} {r : Option (List UInt8)} {r' : List UInt8} {A : Option Addr} {q c : Nat} (hr : r = some r') (hq : q = r'.length) (h : e = .returned (.tuple #[.slice A q c, .int .i64 0]))
    (ho : OwnB w' w.heap.size (.slice A q c) q r') (hb : Below w.heap.size w w') : UnPost w r e w' := by
  subst hr; subst hq; exact ⟨A, c, h, ho, hb⟩

end Go.Proofs.YtdmihbicpjmgjaaDoor
