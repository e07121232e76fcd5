/-
  More of what an operation yields: slices of slices and of arrays, arithmetic on whole numbers.
-/
import Derived.Test.YtmanflfanoddgaaDoorGrowL
import Derived.Test.YtmanflfanoddgaaDoorWds
import Derived.Test.YtmanflfanoddgaaDoorShaP
namespace Go.Proofs.YtmanflfanoddgaaDoor
open Go.RowKit
theorem list_length (s : Sta) : s.list.length = 8 := rfl
section
variable {P : Program} {o : Oper} {a : Act} {w : World} {R : Value → World → Prop}
theorem gives_sub {x y z : Operand} {t e b off n c i j : Nat} (h : o.op = .slice t x (some y) (some z) none) (ht : P.underlying t = some (.slice e)) (he : (P.info? e).map (·.size) = some 1) (hx : a.eval x = .slice (some ⟨b, off, none⟩) n c) (hy : a.eval y = .int .i64 (i : Int)) (hz : a.eval z = .int .i64 (j : Int))
    (hij : i ≤ j) (hj : j ≤ c) (hi : i < c) (hR : R (.slice (some ⟨b, off + i, none⟩) (j - i) (c - i)) w) : gives P o a w R := by
  obtain ⟨q, hq, hs⟩ : ∃ q, P.info? e = some q ∧ q.size = 1 := by
    cases hq : P.info? e with
    | none => simp [hq] at he
    | some q => exact ⟨q, rfl, by simpa [hq] using he⟩
  have hne : ¬ c = i := by omega
  have hcut : (Instr.slice t (.slice (some ⟨b, off, none⟩) n c) (some (.int .i64 (i : Int))) (some (.int .i64 (j : Int))) none).run P w = .ok (.slice (some ⟨b, off + i, none⟩) (j - i) (c - i)) w := by
    have hadd : (⟨b, off, none⟩ : Addr).add i = ⟨b, off + i, none⟩ := add_flat _ _ _
    simp [Instr.slice, run_underlying ht, Instr.sliceBounds, Instr.sliceBound, asIntOf, hij, hj, sizeOf, typeInfo, hq, hs, hne, hadd]
  have hcut2 : (Instr.sliceAt t (.slice (some ⟨b, off, none⟩) n c) (some (.int .i64 (i : Int))) (some (.int .i64 (j : Int))) none).run P w = .ok (.slice (some ⟨b, off + i, none⟩) (j - i) (c - i)) w := by simp [Instr.sliceAt, run_underlying ht, hcut]
  refine gives_of_run (w' := w) (v := .slice (some ⟨b, off + i, none⟩) (j - i) (c - i)) ?_ hR
  unfold execOp
  simp only [h, Option.map_some, Option.map_none, hx, hy, hz, Sem.run_bind, hcut2, Result.andThen_ok, Sem.run_pure]
theorem gives_from {x y : Operand} {t e n c i : Nat} {A : Option Addr} {l : List UInt8} (h : o.op = .slice t x (some y) none none) (ht : P.underlying t = some (.slice e)) (he : (P.info? e).map (·.size) = some 1) (hx : a.eval x = .slice A n c) (hy : a.eval y = .int .i64 (i : Int))
    (hi : i ≤ n) (hn : n ≤ c) (hl : n = l.length) (hr : Rd w A l) (hR : ∀ A', Rd w A' (l.drop i) → R (.slice A' (n - i) (c - i)) w) : gives P o a w R := by
  obtain ⟨q, hq, hs⟩ : ∃ q, P.info? e = some q ∧ q.size = 1 := by
    cases hq : P.info? e with
    | none => simp [hq] at he
    | some q => exact ⟨q, rfl, by simpa [hq] using he⟩
  have hcut : (Instr.slice t (.slice A n c) (some (.int .i64 (i : Int))) none none).run P w = .ok (.slice (if c = i then A else A.map (·.add (i * 1))) (n - i) (c - i)) w := by
    simp [Instr.slice, run_underlying ht, Instr.sliceBounds, Instr.sliceBound, asIntOf, hi, sizeOf, typeInfo, hq, hs]
  have hcut2 : (Instr.sliceAt t (.slice A n c) (some (.int .i64 (i : Int))) none none).run P w = .ok (.slice (if c = i then A else A.map (·.add (i * 1))) (n - i) (c - i)) w := by simp [Instr.sliceAt, run_underlying ht, hcut]
  refine gives_of_run (w' := w) (v := .slice (if c = i then A else A.map (·.add (i * 1))) (n - i) (c - i)) ?_ (hR _ ?_)
  · unfold execOp
    simp only [h, Option.map_some, Option.map_none, hx, hy, Sem.run_bind, hcut2, Result.andThen_ok, Sem.run_pure]
  · by_cases hc : c = i
    · have : l.drop i = [] := List.drop_of_length_le (by omega)
      rw [this]
      exact Rd.nil _ _
    · rw [if_neg hc]
      cases A with
      | none =>
        have hl0 : l = [] := by
          cases l with
          | nil => rfl
          | cons u r => obtain ⟨_, _, hA, _⟩ := hr (by simp); cases hA
        subst hl0
        simp only [List.drop_nil]
        exact Rd.nil _ _
      | some ad =>
        rw [Nat.mul_one]
        exact hr.drop i
/-- The whole of an array as a slice. -/
theorem gives_all {x : Operand} {t g n : Nat} (h : o.op = .slice t x none none none) (hx : a.eval x = .pointer (some ⟨g, 0, none⟩))
    (hrun : (Instr.sliceAt t (.pointer (some ⟨g, 0, none⟩)) none none none).run P w = .ok (.slice (some ⟨g, 0, none⟩) n n) w)
    (hR : R (.slice (some ⟨g, 0, none⟩) n n) w) : gives P o a w R := by
  refine gives_of_run (w' := w) (v := .slice (some ⟨g, 0, none⟩) n n) ?_ hR
  unfold execOp
  simp only [h, Option.map_none, hx, Sem.run_bind, hrun, Result.andThen_ok, Sem.run_pure]
theorem gives_mul_i64 {xt yt : Nat} {x y : Operand} (m n : Int) (h : o.op = .binOp .mul xt x y yt) (hx : a.eval x = .int .i64 m) (hy : a.eval y = .int .i64 n) (hb : -9223372036854775808 ≤ m * n ∧ m * n ≤ 9223372036854775807) (hR : R (.int .i64 (m * n)) w) : gives P o a w R :=
  gives_bin h hx hy (by simp [go_sem]) (by simp [go_sem, IntWalk.i64_in _ hb]) hR
theorem gives_add_i64 {xt yt : Nat} {x y : Operand} (m n : Int) (h : o.op = .binOp .add xt x y yt) (hx : a.eval x = .int .i64 m) (hy : a.eval y = .int .i64 n) (hb : -9223372036854775808 ≤ m + n ∧ m + n ≤ 9223372036854775807) (hR : R (.int .i64 (m + n)) w) : gives P o a w R :=
  gives_bin h hx hy (by simp [go_sem]) (by simp [go_sem, IntWalk.i64_in _ hb]) hR
theorem gives_i64_u64 {x : Operand} {src dst : Nat} (n : Int) (h : o.op = .convert src dst x) (hs : P.underlying src = some (.int .i64)) (hd : P.underlying dst = some (.int .u64)) (hx : a.eval x = .int .i64 n) (hb : 0 ≤ n ∧ n ≤ 18446744073709551615) (hR : R (.int .u64 n) w) : gives P o a w R := by
  have hrun : (convert src dst (.int .i64 n)).run P w = .ok (.int .u64 n) w := by simp [go_sem, hs, hd, IntWalk.u64_in _ hb]
  refine gives_of_run (w' := w) (v := .int .u64 n) ?_ hR
  unfold execOp
  simp only [h, hx, Sem.run_bind, hrun, Result.andThen_ok, Sem.run_pure]
theorem gives_add_u64 {xt yt : Nat} {x y : Operand} (m n : Int) (h : o.op = .binOp .add xt x y yt) (hx : a.eval x = .int .u64 m) (hy : a.eval y = .int .u64 n) (hb : 0 ≤ m + n ∧ m + n ≤ 18446744073709551615) (hR : R (.int .u64 (m + n)) w) : gives P o a w R :=
  gives_bin h hx hy (by simp [go_sem]) (by simp [go_sem, IntWalk.u64_in _ hb]) hR
end
/-- A whole array read, of which the cells are known. -/
theorem run_loadVar_cells {P : Program} (w : World) (g : Nat) (ty : TypeId) (vs : List Value) (n : Nat) (e : TypeId) (hu : P.underlying ty = some (.array n e)) (hi : (P.info? ty).map (·.size) = some n) (hn : n = vs.length)
    (hc : ∀ j v, vs[j]? = some v → w.cell? ⟨g, j, none⟩ = some v) : (loadVar ty ⟨g, 0, none⟩).run P w = .ok (.agg vs.toArray) w := by
  have hl : (loadCells ⟨g, 0, none⟩ vs.length).run P w = .ok vs.toArray w :=
    run_loadCells_list (P := P) w ⟨g, 0, none⟩ vs (fun j v hv => by rw [add_flat, Nat.zero_add]; exact hc j v hv)
  cases hq : P.info? ty with
  | none => simp [hq] at hi
  | some i =>
    have hs : i.size = vs.length := by simp [hq] at hi; omega
    have hagg : (isAgg ty).run P w = .ok true w := by
      unfold isAgg
      rw [Sem.run_bind, run_underlying hu w]
      simp
    simp [loadVar, Sem.run_bind, hagg, sizeOf, typeInfo, hq, hs, hl]
theorem gives_load_cells {P : Program} {o : Oper} {a : Act} {w : World} {R : Value → World → Prop} (ty : TypeId) (x : Operand) (ho : o.op = .load ty x) (g : Nat) (hx : a.eval x = .pointer (some ⟨g, 0, none⟩)) (vs : List Value)
    (n : Nat) (e : TypeId) (hu : P.underlying ty = some (.array n e)) (hi : (P.info? ty).map (·.size) = some n) (hn : n = vs.length) (hc : ∀ j v, vs[j]? = some v → w.cell? ⟨g, j, none⟩ = some v) (hR : R (.agg vs.toArray) w) : gives P o a w R := by
  unfold gives execOp
  simp only [ho, hx, Instr.loadAt, Instr.sureAddr, Sem.run_bind, Sem.run_pure, Result.andThen_ok, run_loadVar_cells w g ty vs n e hu hi hn hc]
  exact hR
theorem wpList_load_cells {P : Program} {ops : Array Oper} {rest : List Oper} {o : Oper} {a : Act} {w : World} {Q : Exit → Act → World → Prop} (hgd : o.guard = none) (ty : TypeId) (x : Operand) (ho : o.op = .load ty x) (g : Nat) (hx : a.eval x = .pointer (some ⟨g, 0, none⟩)) (vs : List Value)
    (n : Nat) (e : TypeId) (hu : P.underlying ty = some (.array n e)) (hi : (P.info? ty).map (·.size) = some n) (hn : n = vs.length) (hc : ∀ j v, vs[j]? = some v → w.cell? ⟨g, j, none⟩ = some v)
    (h : wpList P ops Q rest (a.put o.dst (.agg vs.toArray)) w) : wpList P ops Q (o :: rest) a w :=
  wpList_plain hgd fun _ hK => wp_of_gives (R := fun v w' => v = .agg vs.toArray ∧ w' = w) (gives_load_cells ty x ho g hx vs n e hu hi hn hc ⟨rfl, rfl⟩) (fun v w' ⟨hv, hw⟩ => by subst hv hw; exact hK _ _ h)
/-- A place of an array that is a value. -/
theorem run_index {P : Program} (w : World) (t e : Nat) (vs : List Value) (v : Value) (k : Nat) (ht : P.underlying t = some (.array vs.length e)) (he : (P.info? e).map (·.size) = some 1) (hk : vs[k]? = some v) (hp : (part e vs.toArray k).run P w = .ok v w) :
    (Instr.index t (.agg vs.toArray) (.int .i64 (k : Int))).run P w = .ok v w := by
  have hlt : k < vs.length := (List.getElem?_eq_some_iff.1 hk).1
  obtain ⟨q, hq, hs⟩ : ∃ q, P.info? e = some q ∧ q.size = 1 := by
    cases hq : P.info? e with
    | none => simp [hq] at he
    | some q => exact ⟨q, rfl, by simpa [hq] using he⟩
  simp [Instr.index, asIntOf, run_underlying ht, hlt, sizeOf, typeInfo, hq, hs, hp]
end Go.Proofs.YtmanflfanoddgaaDoor
