/-
  More of what single operations give in a region that draws its order.
-/
import Derived.Test.YtmabminjmcjafaaByt
import Derived.WalkLawsBesides
namespace Go.Proofs.Ytmabminjmcjafaa
open Go.RowKit

theorem Ext.drewN {w W : World} (h : Ext w W) (n : Nat) : Ext w (W.drewN n) := ⟨h.os, h.tape, h.output, h.size, h.block⟩

theorem Rd.drewN {w : World} {A : Option Addr} {l : List UInt8} (h : Rd w A l) (n : Nat) : Rd (w.drewN n) A l := h.ext ((Ext.refl w).drewN n)

section
variable {P : Program} {ops : Array Oper} {o : Oper} {a : Act} {w : World} {R : Value → World → Prop}
theorem gives_lss_int {xt yt : Nat} {x y : Operand} {k : IntKind} (m n : Int) (h : o.op = .binOp .lss xt x y yt) (hx : a.eval x = .int k m) (hy : a.eval y = .int k n) (hR : R (.bool (decide (m < n))) w) : gives P o a w R :=
  gives_bin h hx hy (by simp [go_sem]) (by simp [go_sem]) hR
theorem gives_lss_str {xt yt : Nat} {x y : Operand} (l m : List UInt8) (h : o.op = .binOp .lss xt x y yt) (hx : a.eval x = .string ⟨l.toArray⟩) (hy : a.eval y = .string ⟨m.toArray⟩) (hR : R (.bool (Op.bytesLess l m)) w) : gives P o a w R :=
  gives_bin h hx hy (by simp [go_sem]) (by simp [go_sem]) hR
theorem gives_geq_int {xt yt : Nat} {x y : Operand} {k : IntKind} (m n : Int) (h : o.op = .binOp .geq xt x y yt) (hx : a.eval x = .int k m) (hy : a.eval y = .int k n) (hR : R (.bool (decide (n ≤ m))) w) : gives P o a w R :=
  gives_bin h hx hy (by simp [go_sem]) (by simp [go_sem]) hR
theorem gives_gtr_int {xt yt : Nat} {x y : Operand} {k : IntKind} (m n : Int) (h : o.op = .binOp .gtr xt x y yt) (hx : a.eval x = .int k m) (hy : a.eval y = .int k n) (hR : R (.bool (decide (n < m))) w) : gives P o a w R :=
  gives_bin h hx hy (by simp [go_sem]) (by simp [go_sem]) hR
theorem gives_eql_bool {xt yt : Nat} {x y : Operand} (p q : Bool) (hu : P.underlying xt = some .bool) (h : o.op = .binOp .eql xt x y yt) (hx : a.eval x = .bool p) (hy : a.eval y = .bool q) (hR : R (.bool (p == q)) w) : gives P o a w R :=
  gives_bin h hx hy (by simp [go_sem]) (by simp [go_sem, hu]) hR
theorem gives_not {xt : Nat} {x : Operand} (p : Bool) (h : o.op = .unOp .not xt x) (hx : a.eval x = .bool p) (hR : R (.bool !p) w) : gives P o a w R := by
  refine gives_of_run (w' := w) (v := .bool !p) ?_ hR
  have e : (execOp a.eval o).run P w = ((Op.unary .not (a.eval x)).run P w).andThen fun v w' => .ok (.value v) w' := by simp [execOp, h]
  rw [e, hx]
  simp [go_sem]
theorem gives_len {x : Operand} {t : Nat} {A : Option Addr} {n c : Nat} (h : o.op = .call { callee := .builtin .len, args := #[x], argTypes := #[t] }) (ht : ∃ e, P.underlying t = some (.slice e)) (hx : a.eval x = .slice A n c) (hR : R (.int .i64 (n : Int)) w) : gives P o a w R := by
  obtain ⟨e, ht⟩ := ht
  have hlen : (Builtin.len_ #[t] o.type #[.slice A n c]).run P w = .ok (.int .i64 (n : Int)) w := by simp [go_sem, ht]
  refine gives_of_run (w' := w) (v := .int .i64 (n : Int)) ?_ hR
  unfold execOp
  simp only [h, resolve, invoke, builtin, Sem.run_bind, Sem.run_pure, Result.andThen_ok, List.map_toArray, List.map_cons, List.map_nil, hx, hlen]
theorem gives_cut {x y : Operand} {t e : Nat} {A : Option Addr} {n m c : Nat} (h : o.op = .slice t x none (some y) none) (ht : P.underlying t = some (.slice e)) (he : (P.info? e).isSome = true) (hx : a.eval x = .slice A n c) (hy : a.eval y = .int .i64 (m : Int)) (hm : m ≤ c)
    (hR : R (.slice A m c) w) : gives P o a w R := by
  obtain ⟨i, hi⟩ := Option.isSome_iff_exists.1 he
  have hcut : (Instr.slice t (.slice A n c) none (some (.int .i64 (m : Int))) none).run P w = .ok (.slice A m c) w := by
    simp [Instr.slice, run_underlying ht, Instr.sliceBounds, Instr.sliceBound, asIntOf, hm, sizeOf, typeInfo, hi]
    cases A with
    | none => simp
    | some ad => simp [Addr.add]
  have hcut2 : (Instr.sliceAt t (.slice A n c) none (some (.int .i64 (m : Int))) none).run P w = .ok (.slice A m c) w := by simp [Instr.sliceAt, run_underlying ht, hcut]
  refine gives_of_run (w' := w) (v := .slice A m c) ?_ hR
  unfold execOp
  simp only [h, Option.map_some, Option.map_none, hx, hy, Sem.run_bind, hcut2, Result.andThen_ok, Sem.run_pure]
end
end Go.Proofs.Ytmabminjmcjafaa
