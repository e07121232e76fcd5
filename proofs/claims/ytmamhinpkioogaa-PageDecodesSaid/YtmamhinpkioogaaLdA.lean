/-
  Values of many cells read within a region that draws its order.
-/
import Derived.Test.YtmamhinpkioogaaPgJ
namespace Go.Proofs.Ytmamhinpkioogaa
open Go.RowKit

theorem run_loadVar_at {P : Program} (w : World) (g off : Nat) (ty : TypeId) (vs : List Value) (n : Nat) (ha : (isAgg ty).run P w = .ok true w) (hi : (P.info? ty).map (·.size) = some n) (hn : n = vs.length)
    (hc : ∀ j v, vs[j]? = some v → w.cell? ⟨g, off + j, none⟩ = some v) : (loadVar ty ⟨g, off, none⟩).run P w = .ok (.agg vs.toArray) w := by
  have hl : (loadCells ⟨g, off, none⟩ vs.length).run P w = .ok vs.toArray w :=
    run_loadCells_list (P := P) w ⟨g, off, none⟩ vs (fun j v hv => by rw [add_flat]; exact hc j v hv)
  cases hq : P.info? ty with
  | none => simp [hq] at hi
  | some i =>
    have hs : i.size = vs.length := by simp [hq] at hi; omega
    simp [loadVar, Sem.run_bind, ha, sizeOf, typeInfo, hq, hs, hl]
theorem agg_struct {P : Program} {ty : Nat} {fs : Array Field} (hu : P.underlying ty = some (.struct fs)) (w : World) : (isAgg ty).run P w = .ok true w := by
  unfold isAgg
  rw [Sem.run_bind, run_underlying hu w]
  simp
theorem gives_load_at {P : Program} {o : Oper} {a : Act} {w : World} {R : Value → World → Prop} (ty : TypeId) (x : Operand) (ho : o.op = .load ty x) (g off : Nat) (hx : a.eval x = .pointer (some ⟨g, off, none⟩)) (vs : List Value) (n : Nat) (ha : (isAgg ty).run P w = .ok true w) (hi : (P.info? ty).map (·.size) = some n) (hn : n = vs.length)
    (hc : ∀ j v, vs[j]? = some v → w.cell? ⟨g, off + j, none⟩ = some v) (hR : R (.agg vs.toArray) w) : gives P o a w R := by
  unfold gives execOp
  simp only [ho, hx, Instr.loadAt, Instr.sureAddr, Sem.run_bind, Sem.run_pure, Result.andThen_ok, run_loadVar_at w g off ty vs n ha hi hn hc]
  exact hR
section
variable {P : Program} {o : Oper} {a : Act} {w : World} {R : Value → World → Prop}
theorem gives_fieldP {x : Operand} {t i : Nat} {u v : Value} (h : o.op = .fieldAddr t x i) (hx : a.eval x = u) (hrun : (Instr.fieldAt t u i).run P w = .ok v w) (hR : R v w) : gives P o a w R := by
  refine gives_of_run (w' := w) (v := v) ?_ hR
  unfold execOp
  simp only [h, hx, Sem.run_bind, hrun, Result.andThen_ok, Sem.run_pure]
theorem gives_load_one {x : Operand} {ty : TypeId} {ad : Addr} {v : Value} {e : Nat} (h : o.op = .load ty x) (hx : a.eval x = .pointer (some ad)) (hu : P.underlying ty = some (.slice e)) (hc : w.cell? ad = some v) (hR : R v w) : gives P o a w R := by
  have hl : (loadVar ty ad).run P w = .ok v w := by simp [loadVar, isAgg, run_underlying hu, go_sem, hc]
  unfold gives execOp
  simp only [h, hx, Instr.loadAt, Instr.sureAddr, Sem.run_bind, Sem.run_pure, Result.andThen_ok, hl]
  exact hR
end
theorem run_fieldC (g i : Nat) (hi : i = 0 ∨ i = 1) (w : World) : (Instr.fieldAt 40 (.pointer (some ⟨g, 0, none⟩)) i).run Try.prog w = .ok (.pointer (some ⟨g, i, none⟩)) w := by
  rcases hi with rfl | rfl <;> simp [go_sem, Try.underlying40]
def Sp.cells (L : List Cl) : Sp := ⟨Cells L, fun _ _ _ h hx => h.keep hx⟩
end Go.Proofs.Ytmamhinpkioogaa
