import Derived.Laws.Rows
import Derived.Test.YtjmkecaljkcoiaaDoorQPr
namespace Go.Proofs.YtjmkecaljkcoiaaDoor
open Go.RowKit
theorem quiet_row {P : Program} {o : Oper} {a : Act} {C : World → Prop} {K : Act → Prop} (T : TypeId) (x : Operand) (g : Nat) (cs : Array Value) {T' : TypeId} {fr : Nat × Nat} {d : TypeDesc} (ho : o.op = .load T x) (hx : a.eval x = .pointer (some ⟨g, 0, none⟩))
    (hrow : ∀ w, C w → w.heap[g]? = some (.cells cs T' fr)) (hu : P.underlying T = some d) (hd : (match d with | .struct _ | .array _ _ => true | _ => false) = true) (hi : (P.info? T).map (·.size) = some cs.size)
    (hk : K (a.put o.dst (.agg cs))) : o.quiet P a C K := by
  refine ⟨.agg cs, fun w hw => ?_, hk⟩
  have hr := run_loadVar_row (P := P) w g T' T cs fr d (hrow w hw) hu hd hi
  unfold Oper.quietAt execOp
  simp only [ho, hx, Instr.loadAt, Instr.sureAddr, Sem.run_bind, Sem.run_pure, Result.andThen_ok, hr]
  exact ⟨rfl, rfl⟩
theorem later_row {w0 : World} {g : Nat} {o : Obj} (h : w0.heap[g]? = some o) : ∀ w, (∃ x : Later w0, w = x.w) → w.heap[g]? = some o := by
  rintro w ⟨x, rfl⟩
  exact (x.below.block g (Array.getElem?_eq_some_iff.1 h).1).trans h
end Go.Proofs.YtjmkecaljkcoiaaDoor
