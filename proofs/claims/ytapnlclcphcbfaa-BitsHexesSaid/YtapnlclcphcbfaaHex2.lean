/-
  Contracts of Hex and Unhex.
-/
import Derived.Test.YtapnlclcphcbfaaHex1
import Derived.Test.YtapnlclcphcbfaaLent1
import Derived.Laws.BytesArg
namespace Go.Proofs.Ytapnlclcphcbfaa
open Go.RowKit
set_option linter.unusedVariables false

theorem conv_own {w : World} {base q c : Nat} {A : Option Addr} {l : List UInt8} (h : OwnB w base (.slice A q c) q l) :
    (convert 22 9 (.slice A q c)).run Try.prog w = .ok (.string ⟨l.toArray⟩) w := by
  have hl := h.len
  rcases h.2 with ⟨hv, h0⟩ | ⟨g, cap, cur, hv, _⟩
  · injection hv with h1 h2 h3
    subst h1; subst h3
    subst h0
    obtain rfl := List.eq_nil_of_length_eq_zero hl
    exact run_convert_bytes_nil w 22 5 Try.underlying22 Try.underlying5 0 0 9 Try.underlying9
  · injection hv with h1 h2 h3
    subst h1
    subst hl
    exact run_convert_bytes_back w 22 9 5 ⟨g, 0, none⟩ c l Try.underlying22 Try.underlying5 Try.underlying9 (fun j hj => by
      obtain ⟨ad, hjl, e1, _, hc⟩ := h.bs.at_ hj
      obtain rfl := Option.some.inj e1
      exact hc)

set_option maxRecDepth 100000 in
theorem hex_any (A : Option Addr) (n c : Nat) (l : List UInt8) (B : Nat) (w : World) (hA : Bs w B A n l) (hB : B ≤ w.heap.size) (hn : n ≤ 1048576) :
    Calls Try.prog 34 #[.slice A n c] w fun e w' => e = .returned (.string ⟨(hexL l).toArray⟩) ∧ Below w.heap.size w w' := by
  have hmk := fun W => mk_bytes 0 (2 * n) (2 * (n : Int)) (by omega) (by omega) (by omega) W
  rw [show ((0 : Nat) : Int) = 0 from rfl] at hmk
  have hlen := hA.len
  have HL := hide hlen
  clear hlen
  go_enter Try.func34, Try.ntmps34
  go_wp2
  go_loopw [3, 12] (fun v i wr => ∃ j q : Nat, ∃ A' c', j ≤ n ∧ i = .int .i64 j ∧ v = .slice A' q c' ∧ q = 2 * j ∧ OwnB wr w.heap.size (.slice A' q c') q (hexL (l.take j)) ∧ Below w.heap.size w wr) (fun _ i _ => n - (intOf i).toNat)
  case atStart =>
    refine ⟨0, 0, _, _, Nat.zero_le _, rfl, rfl, rfl, ?_, (Below.refl _ _).alloc (Nat.le_refl _) _⟩
    exact own_of_cells (heap_alloc_new w _) (Nat.le_refl _) (by omega) (by unfold maxLen; omega) (zeroBytes_len _) (by simp [hexL, bvs]) (by simp [hexL, bvs])
  case round =>
    obtain ⟨j, q, A', c', hj, rfl, rfl, hq, hown, hb⟩ := hrel
    by_cases hlt : j < n
    · obtain ⟨ad, hjl, rfl, hbl, hc⟩ := hA.at_ hlt
      have hc' := (hb.cell (by rw [block_of_add]; omega)).trans hc
      unfold byteV at hc'
      clear hc
      obtain ⟨y, hy⟩ : ∃ y, y = l[j].toNat := ⟨_, rfl⟩
      rw [← hy] at hc'
      have hy256 : y < 256 := by rw [hy]; exact l[j].toNat_lt
      have hs : hexL (l.take (j + 1)) = hexL (l.take j) ++ [hexD (y / 16), hexD (y % 16)] := by rw [take_snoc hjl, hexL_snoc, ← hy]
      have e15 : bits .and .u8 (y : Int) 15 = ((y % 16 : Nat) : Int) := by
        have := u8_and_nat y 15 hy256 (by omega)
        rw [show ((15 : Nat) : Int) = 15 from rfl, nat_mask4] at this
        exact this
      have i1 := fun W => idx_tab ((y : Int) / 16) (y / 16) (by omega) (by omega) W
      have i2 := fun W => idx_tab (bits .and .u8 (y : Int) 15) (y % 16) e15 (by omega) W
      obtain ⟨d1, hd1⟩ : ∃ d, d = hexD (y / 16) := ⟨_, rfl⟩
      obtain ⟨d2, hd2⟩ : ∃ d, d = hexD (y % 16) := ⟨_, rfl⟩
      rw [← hd1] at i1 hs
      rw [← hd2] at i2 hs
      have hq2 : q ≤ 2 * j := by omega
      have hsz := hb.size
      have HS := hide hs
      have HQ := hide hq
      clear hs hy e15 hd1 hd2 hq
      go_wp2_with fail
      go_region_held3 (fun _ => True) (trivial)
        ((refine step_bytes_own _ (by rfl) _ _ (by rfl) w.heap.size q _ (hexL (l.take j)) (by rfl) ((hown.alloc _).drew) _ (some ⟨wr.heap.size, 0, none⟩) 2 2 [d1, d2] (by rfl) ((own_lit wr 0 2 [d1, d2] _ (by rfl) rfl (by decide) (Nat.zero_le _)).drew).bs (by omega) w.heap.size w (((hb.alloc hsz _)).drew) (Nat.le_refl _) (by simp; omega) ?_; intro A2 c2 w2 hown2 hb2 hsz2))
      all_goals
        go_wp2
        go_roundw
        case rel => exact ⟨j + 1, q + 2, A2, c2, by omega, by go_num, rfl, by rw [HQ.out]; omega, by rw [HS.out]; exact hown2, hb2⟩
        case measure => simp [intOf]; omega
    · obtain rfl : j = n := by omega
      have hcv := conv_own hown
      rw [List.take_of_length_le (by rw [HL.out]; omega)] at hcv
      have HQ := hide hq
      clear hq hown
      go_wp2
      go_ret
      exact ⟨rfl, hb⟩

theorem add_str (L M : List UInt8) (a b c : ByteArray) (ha : a = ⟨L.toArray⟩) (hb : b = ⟨M.toArray⟩) (hc : c = ⟨(L ++ M).toArray⟩) (hs : L.length + M.length ≤ 9223372036854775807) (W : World) :
    (Op.stringOp .add a b).run Try.prog W = .ok (.string c) W := by
  subst ha; subst hb; subst hc
  rw [run_string_add_sum W _ _ (by simpa [ByteArray.size] using hs), ByteArray.mk_append_mk]

set_option maxRecDepth 100000 in
theorem rhex_any (A : Option Addr) (n c : Nat) (l : List UInt8) (B : Nat) (w : World) (hA : Bs w B A n l) (hn : n ≤ 1048576) :
    Calls Try.prog 37 #[.slice A n c] w fun e w' => e = .returned (.string ⟨(hexL l).toArray⟩) ∧ Drawn w w' := by
  have hlen := hA.len
  have HL := hide hlen
  clear hlen
  go_enter Try.func37, Try.ntmps37
  go_wp2
  go_loopw [3, 4] (fun v i wr => ∃ j : Nat, ∃ s : ByteArray, j ≤ n ∧ i = .int .i64 j ∧ v = .string s ∧ s = ⟨(hexL (l.take j)).toArray⟩ ∧ Drawn w wr) (fun _ i _ => n - (intOf i).toNat)
  case atStart => exact ⟨0, _, Nat.zero_le _, rfl, rfl, by simp [hexL], Drawn.refl _⟩
  case round =>
    obtain ⟨j, s, hj, rfl, rfl, hs, ⟨nq0, rfl⟩⟩ := hrel
    by_cases hlt : j < n
    · have hltI : (j : Int) < (n : Int) := by omega
      obtain ⟨ad, hjl, rfl, hbl, hc⟩ := hA.at_ hlt
      unfold byteV at hc
      obtain ⟨y, hy⟩ : ∃ y, y = l[j].toNat := ⟨_, rfl⟩
      rw [← hy] at hc
      have hy256 : y < 256 := by rw [hy]; exact l[j].toNat_lt
      have hx : hexL (l.take (j + 1)) = (hexL (l.take j) ++ [hexD (y / 16)]) ++ [hexD (y % 16)] := by rw [take_snoc hjl, hexL_snoc, ← hy, List.append_assoc]; rfl
      have hll : (hexL (l.take j)).length ≤ 2 * n := by rw [hexL_len, List.length_take]; omega
      have i1 := fun W => sl_tab ((y : Int) / 16) ((y : Int) / 16 + 1) (y / 16) (by omega) (by omega) (by omega) W
      have i2 := fun W => sl_tab ((y : Int) % 16) ((y : Int) % 16 + 1) (y % 16) (by omega) (by omega) (by omega) W
      obtain ⟨d1, hd1⟩ : ∃ d, d = hexD (y / 16) := ⟨_, rfl⟩
      obtain ⟨d2, hd2⟩ : ∃ d, d = hexD (y % 16) := ⟨_, rfl⟩
      rw [← hd1] at i1 hx
      rw [← hd2] at i2 hx
      obtain ⟨e1, he1⟩ : ∃ e : ByteArray, e = ⟨#[d1]⟩ := ⟨_, rfl⟩
      obtain ⟨e2, he2⟩ : ∃ e : ByteArray, e = ⟨#[d2]⟩ := ⟨_, rfl⟩
      obtain ⟨s1, hs1⟩ : ∃ e : ByteArray, e = ⟨(hexL (l.take j) ++ [d1]).toArray⟩ := ⟨_, rfl⟩
      obtain ⟨s2, hs2⟩ : ∃ e : ByteArray, e = ⟨((hexL (l.take j) ++ [d1]) ++ [d2]).toArray⟩ := ⟨_, rfl⟩
      have a1 := fun W => add_str (hexL (l.take j)) [d1] s e1 s1 hs he1 hs1 (by simp; omega) W
      have a2 := fun W => add_str (hexL (l.take j) ++ [d1]) [d2] s1 e2 s2 hs1 he2 hs2 (by simp; omega) W
      rw [← hx] at hs2
      rw [← he1] at i1
      rw [← he2] at i2
      have HS := hide hs2
      clear hs2 hs1 hs he1 he2 hd1 hd2 hx hy hll
      go_wp2_with fail
      go_quiet (fail)
      go_wp2
      go_roundw
      case rel => exact ⟨j + 1, s2, by omega, by go_num, rfl, HS.out, (by first | exact drawn_one _ _ | exact drawn_two _ _ _)⟩
      case measure => simp [intOf]; omega
    · have HS := hide hs
      clear hs
      go_wp2
      go_ret
      have e := HS.out
      rw [List.take_of_length_le (by rw [HL.out]; omega)] at e
      rw [← e]
      exact ⟨rfl, drawn_one _ _⟩

theorem idx_str (s : ByteArray) (l : List UInt8) (hl : l = s.data.toList) (k : Nat) (K : Int) (hK : K = (k : Int)) (h : k < l.length) (W : World) :
    (Instr.index 9 (.string s) (.int .i64 K)).run Try.prog W = .ok (.int .u8 (l[k].toNat : Int)) W := by
  subst hK; subst hl
  have hs : k < s.size := by rw [Array.length_toList] at h; exact h
  rw [run_index_string W 9 s .i64 _ Try.underlying9, dif_pos ⟨by omega, by omega⟩]
  rfl
theorem or_16 (x y : Nat) (hx : x < 16) (hy : y < 16) : bits .or .i64 ((x : Int) * 16) (y : Int) = ((x * 16 + y : Nat) : Int) := by
  have h1 : ((x : Int) * 16) = ((x * 16 : Nat) : Int) := by omega
  rw [h1]
  show IntKind.i64.wrap ((BitVec.ofInt 64 ((x * 16 : Nat) : Int) ||| BitVec.ofInt 64 (y : Int)).toNat : Int) = _
  rw [BitVec.toNat_or, BitVec.ofInt_natCast, BitVec.ofInt_natCast, BitVec.toNat_ofNat, BitVec.toNat_ofNat, Nat.mod_eq_of_lt (by omega), Nat.mod_eq_of_lt (by omega), nat_join 4 _ _ (by omega) (by omega), IntKind.wrap_i64]
  omega
theorem part_set (r : List UInt8) (N j : Nat) (x : UInt8) (hr : r.length = j) (hj : j < N) : (bvs r ++ zeroBytes (N - j)).set j (byteV x) = bvs (r ++ [x]) ++ zeroBytes (N - (j + 1)) := by
  rw [List.set_append_right _ _ (by rw [bvs_len]; omega), bvs_len, hr, Nat.sub_self, show N - j = (N - (j + 1)) + 1 from by omega, zeroBytes, List.replicate_succ, List.set_cons_zero, bvs_snoc, List.append_assoc]
  rfl
theorem part_at (r : List UInt8) (N j : Nat) (hr : r.length = j) (hj : j < N) : (bvs r ++ zeroBytes (N - j))[j]? = some (.int .u8 0) := by
  rw [List.getElem?_append_right (by rw [bvs_len]; omega), bvs_len, hr, Nat.sub_self, zeroBytes, List.getElem?_replicate, if_pos (by omega)]

/-- What Unhex answers: the bytes, in memory of its own; or the error. -/
def UnPost (w : World) (r : Option (List UInt8)) (e : Ending) (w' : World) : Prop :=
  match r with
  | some r => ∃ A c, e = .returned (.tuple #[.slice A r.length c, .int .i64 0]) ∧ OwnB w' w.heap.size (.slice A r.length c) r.length r ∧ Below w.heap.size w w'
  | none => e = .returned (.tuple #[.slice none 0 0, .int .i64 5]) ∧ Below w.heap.size w w'
theorem UnPost.mk_none {w w' : World} {e : Ending} {r : Option (List UInt8)} (hr : r = none) (h : e = .returned (.tuple #[.slice none 0 0, .int .i64 5])) (hb : Below w.heap.size w w') : UnPost w r e w' := by
  subst hr; exact ⟨h, hb⟩
theorem UnPost.mk_some {w w' : World} {e : Ending} {r : Option (List UInt8)} {r' : List UInt8} {A : Option Addr} {q c : Nat} (hr : r = some r') (hq : q = r'.length) (h : e = .returned (.tuple #[.slice A q c, .int .i64 0]))
    (ho : OwnB w' w.heap.size (.slice A q c) q r') (hb : Below w.heap.size w w') : UnPost w r e w' := by
  subst hr; subst hq; exact ⟨A, c, h, ho, hb⟩

set_option maxRecDepth 100000 in
theorem unhex_any (s : ByteArray) (l : List UInt8) (hl : l = s.data.toList) (w : World) (hn : s.size ≤ 2097152) :
    Calls Try.prog 35 #[.string s] w (UnPost w (unhexL l)) := by
  have hsz : l.length = s.size := by rw [hl, Array.length_toList]; rfl
  by_cases hodd : s.size % 2 = 1
  · have hr := unhex_odd_mod l (by omega)
    have HR := hide hr
    have ho : ((s.size : Int) % 2 != 0) = true := by simp only [bne_iff_ne, ne_eq]; omega
    clear hodd hr hsz
    go_enter Try.func35, Try.ntmps35
    go_wp2
    go_ret2
    exact UnPost.mk_none HR.out rfl (Below.refl _ _)
  · have ho : ((s.size : Int) % 2 != 0) = false := by simp only [bne_eq_false_iff_eq]; omega
    obtain ⟨N, hN⟩ : ∃ N, N = s.size / 2 := ⟨_, rfl⟩
    have hdiv : (s.size : Int) / 2 = (N : Int) := by omega
    have hlen : l.length = 2 * N := by omega
    have hmk := fun W => mk_bytes N N (N : Int) rfl (Nat.le_refl _) (by omega) W
    have hN2 : N ≤ 1048576 := by omega
    have H0 := UnInv.start l
    have HL := hide hlen
    clear hN hodd hlen hsz
    go_enter Try.func35, Try.ntmps35
    go_wp2
    go_loopw [18] (fun i wr => ∃ j : Nat, ∃ r : List UInt8, j ≤ N ∧ i = .int .i64 j ∧ UnInv l j r ∧ BlkB wr w.heap.size (bvs r ++ zeroBytes (N - j)) ∧ Below w.heap.size w wr) (fun i _ => N - (intOf i).toNat)
    case atStart =>
      refine ⟨0, [], Nat.zero_le _, rfl, H0, ?_, (Below.refl _ _).alloc (Nat.le_refl _) _⟩
      exact BlkB.new w _
    case round =>
      obtain ⟨j, r, hj, rfl, hinv, hblk, hb⟩ := hrel
      by_cases hlt : j < N
      · have h2 : 2 * j + 1 < l.length := by rw [HL.out]; omega
        obtain ⟨a, ha⟩ : ∃ a, a = l[2 * j] := ⟨_, rfl⟩
        obtain ⟨b, hb'⟩ : ∃ b, b = l[2 * j + 1] := ⟨_, rfl⟩
        have x1 := fun W => idx_str s l hl (2 * j) (2 * (j : Int)) (by omega) (by omega) W
        have x2 := fun W => idx_str s l hl (2 * j + 1) (2 * (j : Int) + 1) (by omega) h2 W
        rw [← ha] at x1
        rw [← hb'] at x2
        have HA := hide ha
        have HB := hide hb'
        clear ha hb'
        have hL : Hid (l = s.data.toList) := hl
        clear hl
        have hsz := hb.size
        cases hda : digV a with
        | none =>
          have d1 := digI_none hda
          have hbad := hinv.bad h2 (.inl (by rw [← HA.out]; exact hda))
          have HR := hide hbad
          clear hbad hda
          go_wp2_with fail
          refine wp_region_calm (by kernel_rfl) (by kernel_rfl) ?_
          repeat (go_big_quiet_step ((go_at_call 40; exact calm_same (digit_any _ _))))
          refine wpQuiet_nil ?_
          rintro _ ⟨x9, rfl⟩
          have hb9 := x9.below
          generalize x9.w = w9 at hb9 ⊢
          go_wp2
          go_ret2
          exact UnPost.mk_none HR.out rfl (hb.trans (hb9.mono hsz))
        | some x =>
          have hx16 := digV_lt hda
          have d1 := digI_some hda
          cases hdb : digV b with
          | none =>
            have d2 := digI_none hdb
            have hbad := hinv.bad h2 (.inr (by rw [← HB.out]; exact hdb))
            have HR := hide hbad
            clear hbad hda hdb
            go_wp2_with fail
            refine wp_region_calm (by kernel_rfl) (by kernel_rfl) ?_
            repeat (go_big_quiet_step ((go_at_call 40; exact calm_same (digit_any _ _))))
            refine wpQuiet_nil ?_
            rintro _ ⟨x9, rfl⟩
            have hb9 := x9.below
            generalize x9.w = w9 at hb9 ⊢
            go_wp2
            go_ret2
            exact UnPost.mk_none HR.out rfl (hb.trans (hb9.mono hsz))
          | some y =>
            have hy16 := digV_lt hdb
            have d2 := digI_some hdb
            have hi := hinv.step h2 (by rw [← HA.out]; exact hda) (by rw [← HB.out]; exact hdb)
            have hrl := hinv.len
            clear hda hdb
            go_wp2_with fail
            refine wp_region_calm (by kernel_rfl) (by kernel_rfl) ?_
            repeat (go_big_quiet_step ((go_at_call 40; exact calm_same (digit_any _ _))))
            refine wpQuiet_nil ?_
            rintro _ ⟨x9, rfl⟩
            have hb9 := x9.below
            generalize x9.w = w9 at hb9 ⊢
            have hblk9 := hblk.later hb9
            have hbb := hb.trans (hb9.mono hsz)
            have hcell : w9.cell? ⟨w.heap.size, j, none⟩ = some (.int .u8 0) := by rw [hblk9.cell, part_at _ _ _ hrl hlt]
            have hfr := hblk9.frozen j
            have hn2 := hblk9.set_ j (byteV (UInt8.ofNat (x * 16 + y)))
            rw [part_set r N j _ hrl hlt] at hn2
            have hb2 := hbb.setCell (p := ⟨w.heap.size, j, none⟩) (Nat.le_refl _) (byteV (UInt8.ofNat (x * 16 + y)))
            have hor := or_16 x y hx16 hy16
            have ev : byteV (UInt8.ofNat (x * 16 + y)) = .int .u8 ((x : Int) * 16 + (y : Int)) := by
              unfold byteV; congr 1; simp; omega
            rw [ev] at hn2 hb2
            have HRL := hide hrl
            clear ev hblk hblk9 hb hbb hrl hb9
            go_wp2
            go_roundw
            case rel => exact ⟨j + 1, _, by omega, by go_num, hi, hn2, hb2⟩
            case measure => simp [intOf]; omega
      · obtain rfl : j = N := by omega
        have hd := hinv.done HL.out
        have hrl := hinv.len
        rw [Nat.sub_self, show zeroBytes 0 = [] from rfl, List.append_nil] at hblk
        have hown : OwnB wr w.heap.size (.slice (some ⟨w.heap.size, 0, none⟩) j j) j r := hblk.own (Nat.le_refl _) (Nat.le_refl _) (by unfold maxLen; omega) (by rw [bvs_len]; exact hrl) (List.take_of_length_le (by rw [bvs_len]; omega)) hrl
        have HD := hide hd
        have HR := hide hrl
        clear hd hrl hblk
        go_wp2
        go_ret2
        exact UnPost.mk_some HD.out HR.out.symm rfl hown hb

set_option maxRecDepth 100000 in
theorem runhex_any (s : ByteArray) (l : List UInt8) (hl : l = s.data.toList) (w : World) (hn : s.size ≤ 2097152) :
    Calls Try.prog 36 #[.string s] w (UnPost w (unhexL l)) := by
  have hsz : l.length = s.size := by rw [hl, Array.length_toList]; rfl
  have H0 := UnInv.start l
  have HL := hide hsz
  clear hsz
  go_enter Try.func36, Try.ntmps36
  go_wp2
  go_loopw [4, 5] (fun v i wr => ∃ j q : Nat, ∃ r : List UInt8, ∃ A c, 2 * j ≤ s.size ∧ i = .int .i64 (2 * (j : Int)) ∧ v = .slice A q c ∧ q = j ∧ UnInv l j r ∧ OwnB wr w.heap.size (.slice A q c) q r ∧ Below w.heap.size w wr) (fun _ i _ => s.size - (intOf i).toNat)
  case atStart => exact ⟨0, 0, [], none, 0, Nat.zero_le _, rfl, rfl, rfl, H0, OwnB.nil_ _ _, Below.refl _ _⟩
  case round =>
    obtain ⟨j, q, r, A, c, hj, rfl, rfl, hq, hinv, hown, hb⟩ := hrel
    have hqb : q ≤ 1048576 := by omega
    have hrl := hinv.len
    have HQ := hide hq
    have HR := hide hrl
    clear hq hrl
    have hsz := hb.size
    by_cases hlt : 2 * j + 1 < s.size
    · have h2 : 2 * j + 1 < l.length := by rw [HL.out]; omega
      obtain ⟨a, ha⟩ : ∃ a, a = l[2 * j] := ⟨_, rfl⟩
      obtain ⟨b, hb'⟩ : ∃ b, b = l[2 * j + 1] := ⟨_, rfl⟩
      have x1 := fun W => idx_str s l hl (2 * j) (2 * (j : Int)) (by omega) (by omega) W
      have x2 := fun W => idx_str s l hl (2 * j + 1) (2 * (j : Int) + 1) (by omega) h2 W
      rw [← ha] at x1
      rw [← hb'] at x2
      have HA := hide ha
      have HB := hide hb'
      clear ha hb'
      have hL : Hid (l = s.data.toList) := hl
      clear hl
      cases hda : digV a with
      | none =>
        have d1 := digB_none hda
        have hbad := hinv.bad h2 (.inl (by rw [← HA.out]; exact hda))
        have HRR := hide hbad
        clear hbad hda
        go_wp2_with (first | (go_at_call 41; refine (rdigit_any _ _).mono ?_; rintro e w' ⟨rfl, rfl⟩))
        go_ret2
        exact UnPost.mk_none HRR.out rfl hb
      | some x =>
        have hx16 := digV_lt hda
        have d1 := digB_some hda
        have n1 := digN_some hda
        cases hdb : digV b with
        | none =>
          have d2 := digB_none hdb
          have hbad := hinv.bad h2 (.inr (by rw [← HB.out]; exact hdb))
          have HRR := hide hbad
          clear hbad hda hdb
          go_wp2_with (first | (go_at_call 41; refine (rdigit_any _ _).mono ?_; rintro e w' ⟨rfl, rfl⟩))
          go_ret2
          exact UnPost.mk_none HRR.out rfl hb
        | some y =>
          have hy16 := digV_lt hdb
          have d2 := digB_some hdb
          have n2 := digN_some hdb
          have hi := hinv.step h2 (by rw [← HA.out]; exact hda) (by rw [← HB.out]; exact hdb)
          obtain ⟨z, hz⟩ : ∃ z, z = UInt8.ofNat (x * 16 + y) := ⟨_, rfl⟩
          rw [← hz] at hi
          have hzv : byteV z = .int .u8 ((x : Int) * 16 + (y : Int)) := by
            rw [hz]; unfold byteV; congr 1; simp; omega
          have HZ := hide hzv
          clear hda hdb hz hzv
          go_wp2_with (first | (go_at_call 41; refine (rdigit_any _ _).mono ?_; rintro e w' ⟨rfl, rfl⟩) | (at_builtin; refine wp_byte_own _ rfl (.tmp 38) (.tmp 43) rfl w.heap.size q _ _ rfl (hown.alloc _) wr.heap.size z rfl ?c1 (by omega) w.heap.size w (hb.alloc hsz _) (Nat.le_refl _) ?c4 ?_))
          case c1 => exact cell_lit1 _ _ HZ.out.symm
          case c4 => simp; omega
          intro g2 c2 w2 hown2 hb2 hsz2
          clear hown hb
          go_wp2
          go_roundw
          case rel => exact ⟨j + 1, q + 1, _, _, c2, by omega, by go_num, rfl, by rw [HQ.out], hi, hown2, hb2⟩
          case measure => simp [intOf]; omega
    · have hlt' : (s.size : Int) ≤ 2 * (j : Int) + 1 := by omega
      by_cases hev : s.size = 2 * j
      · have hd := hinv.done (by rw [HL.out]; exact hev)
        have ho : ((s.size : Int) % 2 == 1) = false := by rw [beq_eq_false_iff_ne]; omega
        have HD := hide hd
        clear hd hev
        go_wp2
        go_ret2
        exact UnPost.mk_some HD.out (by rw [HQ.out, HR.out]) rfl hown hb
      · have hd := hinv.odd (by rw [HL.out]; omega)
        have ho : ((s.size : Int) % 2 == 1) = true := by rw [beq_iff_eq]; omega
        have HD := hide hd
        clear hd hev
        go_wp2
        go_ret2
        exact UnPost.mk_none HD.out rfl hb
end Go.Proofs.Ytapnlclcphcbfaa
