/-
  From what a row lists to what the walks want: the table of powers of ten, the library's two sentinels.
-/
import Derived.Test.YtcnnpbeadldflaaDoorRows
import Derived.Test.YtcnnpbeadldflaaDoorPid5
import Derived.Stop.LaidErr
import Derived.LaidByTextLater
namespace Go.Proofs.YtcnnpbeadldflaaDoor
open Go.RowKit Go.Lib
theorem gPow : Tryd.prog.globalNamed "internal/strconv.uint64pow10" = some 0 := by kernel_rfl
theorem tPow : (Tryd.prog.globals[0]?).map (·.type) = some 111 := by kernel_rfl
theorem gSyn : Tryd.prog.globalNamed "strconv.ErrSyntax" = some 2 := by kernel_rfl
theorem tSyn : (Tryd.prog.globals[2]?).map (·.type) = some 61 := by kernel_rfl
theorem gRan : Tryd.prog.globalNamed "strconv.ErrRange" = some 3 := by kernel_rfl
theorem tRan : (Tryd.prog.globals[3]?).map (·.type) = some 61 := by kernel_rfl
theorem cellsErr : Tryd.prog.cellsOf 130 = 1 := by kernel_rfl
theorem cellsStr : Tryd.prog.cellsOf 9 = 1 := by kernel_rfl
theorem cellsU64 : Tryd.prog.cellsOf 55 = 1 := by kernel_rfl
theorem cellsPow : Tryd.prog.cellsOf 111 = 20 := by kernel_rfl
theorem star : "*" ++ "errors.errorString" = "*errors.errorString" := by decide
theorem rowErr (u : TypeId) (h : Tryd.prog.typeName? 3 u = some "*errors.errorString") : u = 128 :=
  typeName_ptr_named (nm := "errors.errorString") (by rw [star]; kernel_rfl) (by kernel_rfl) (by decide) u (by rw [star]; exact h)
theorem pows_of {W : World} {rest : List (String × DataW Unit)} (h : laidMet Tryd.prog (("internal/strconv.uint64pow10", Rows.laid_internal_strconv_uint64pow10) :: rest) W) : Pows W :=
  tabIs_of_head (rest := rest) gPow tPow Tryd.underlying111 Tryd.underlying55 cellsU64 cellsPow h
theorem texts_laid {W : World} (h : laidMetH Tryd.prog Rows.pidTextsRow.laid W) : Pows W ∧ Errs W := by
  have h' : laidMetH Tryd.prog [("math/bits.deBruijn32tab", Rows.laid_math_bits_deBruijn32tab), ("math/bits.deBruijn64tab", Rows.laid_math_bits_deBruijn64tab), ("internal/strconv.uint64pow10", Rows.laid_internal_strconv_uint64pow10), ("strconv.ErrRange", Rows.laid_strconv_ErrRange), ("strconv.ErrSyntax", Rows.laid_strconv_ErrSyntax)] W := h
  rw [MakeChecks.laidMetH_plain _ _ _ (by kernel_rfl)] at h'
  obtain ⟨a1, s1, hv1, -, -, -⟩ := laid_sentinel h'.tail.tail.tail gRan tRan Tryd.underlying61 rowErr Tryd.underlying128 Tryd.underlying130 rfl rfl Tryd.underlying9 cellsErr cellsStr
  obtain ⟨a0, s0, hv0, -, -, -⟩ := laid_sentinel h'.tail.tail.tail.tail gSyn tSyn Tryd.underlying61 rowErr Tryd.underlying128 Tryd.underlying130 rfl rfl Tryd.underlying9 cellsErr cellsStr
  exact ⟨pows_of h'.tail.tail, ⟨_, _, hv0⟩, _, _, hv1⟩
end Go.Proofs.YtcnnpbeadldflaaDoor
