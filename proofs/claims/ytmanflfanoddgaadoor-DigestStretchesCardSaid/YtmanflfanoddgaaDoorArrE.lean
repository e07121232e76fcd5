/-
  '==' of two arrays of bytes that are the same.
-/
import Derived.Test.YtmanflfanoddgaaDoorGivS
import Derived.Laws.StructEq
import Derived.ChangeKeysEq
namespace Go.Proofs.YtmanflfanoddgaaDoor
open Go.RowKit

theorem equalIn_bytes {P : Program} (w : World) (d t e n : Nat) (xs : Array Value) (ht : P.underlying t = some (.array n e)) (he : P.underlying e = some (.int .u8)) (hsz : (P.info? e).map (·.size) = some 1)
    (h : ∀ i, i < n → ∃ z, (part e xs i).run P w = .ok (.int .u8 z) w) : (Op.equalIn (d + 2) t (.agg xs) (.agg xs)).run P w = .ok true w := by
  obtain ⟨q, hq, hs⟩ : ∃ q, P.info? e = some q ∧ q.size = 1 := by
    cases hq : P.info? e with
    | none => simp [hq] at hsz
    | some q => exact ⟨q, rfl, by simpa [hq] using hsz⟩
  have hz : (sizeOf e).run P w = .ok 1 w := by simp [sizeOf, typeInfo, hq, hs]
  rw [Op.equalIn]
  simp only [Sem.run_bind, run_underlying ht, Result.andThen_ok, hz]
  rw [Std.Legacy.Range.forIn_eq_forIn_range']
  have hm : ∀ i ∈ List.range' ([0:n] : Std.Legacy.Range).start ([0:n] : Std.Legacy.Range).size ([0:n] : Std.Legacy.Range).step, i < n := by
    intro i hi
    simp [Std.Legacy.Range.size] at hi
    omega
  generalize List.range' ([0:n] : Std.Legacy.Range).start ([0:n] : Std.Legacy.Range).size ([0:n] : Std.Legacy.Range).step = l at *
  induction l with
  | nil => simp
  | cons i l ih =>
    obtain ⟨z, hzz⟩ := h i (hm i (List.mem_cons_self))
    have := ih (fun j hj => hm j (List.mem_cons_of_mem _ hj))
    simp only [List.forIn_cons, Nat.mul_one, Sem.run_bind, hzz, Result.andThen_ok, run_equalIn_int w d e .u8 .u8 z z he, beq_self_eq_true, Bool.not_true, Bool.false_eq_true, if_false, Sem.run_pure, Sem.run_ite]
    simp only [Nat.mul_one, Sem.run_bind] at this
    exact this
theorem part_byte {P : Program} (w : World) (e : Nat) (l : List UInt8) (he : P.underlying e = some (.int .u8)) (i : Nat) (hi : i < l.length) : ∃ z, (part e (bs l).toArray i).run P w = .ok (.int .u8 z) w :=
  ⟨_, run_part_plain w (by simp [Program.plainKey, he]) (v := .int .u8 ((l[i]).toNat : Int)) (by rw [List.getElem?_toArray, bs_get, List.getElem?_eq_getElem hi]; rfl)⟩
theorem run_eql_bytes {P : Program} (w : World) (t e : Nat) (l : List UInt8) (ht : P.underlying t = some (.array l.length e)) (he : P.underlying e = some (.int .u8)) (hsz : (P.info? e).map (·.size) = some 1) : (binOp .eql t (.agg (bs l).toArray) (.agg (bs l).toArray)).run P w = .ok (.bool true) w := by
  rw [run_eql_struct, equalIn_bytes w 9998 t e _ _ ht he hsz (fun i hi => part_byte w e l he i hi)]
  rfl
theorem run_neq_bytes {P : Program} (w : World) (t e : Nat) (l : List UInt8) (ht : P.underlying t = some (.array l.length e)) (he : P.underlying e = some (.int .u8)) (hsz : (P.info? e).map (·.size) = some 1) : (binOp .neq t (.agg (bs l).toArray) (.agg (bs l).toArray)).run P w = .ok (.bool false) w := by
  rw [run_neq_struct, equalIn_bytes w 9998 t e _ _ ht he hsz (fun i hi => part_byte w e l he i hi)]
  rfl
theorem gives_eql_bytes {P : Program} {o : Oper} {a : Act} {w : World} {R : Value → World → Prop} {t e yt : Nat} {x y : Operand} (l : List UInt8) (h : o.op = .binOp .eql t x y yt) (ht : P.underlying t = some (.array l.length e)) (he : P.underlying e = some (.int .u8)) (hsz : (P.info? e).map (·.size) = some 1)
    (hg : P.eqGuardType P.depth t = false) (hx : a.eval x = .agg (bs l).toArray) (hy : a.eval y = .agg (bs l).toArray) (hR : R (.bool true) w) : gives P o a w R :=
  gives_bin h hx hy (run_eqGuard_agg w .eql t x y _ _ hg) (run_eql_bytes w t e l ht he hsz) hR
/-- A whole array read, in an operation that may be guarded. -/
theorem wpList_load_wd {P : Program} {ops : Array Oper} {rest : List Oper} {o : Oper} {a : Act} {w : World} {Q : Exit → Act → World → Prop} (hgd : Region.wanted o (yielded ops a.tmps) = true) (ty : TypeId) (x : Operand) (ho : o.op = .load ty x) (g : Nat) (hx : a.eval x = .pointer (some ⟨g, 0, none⟩)) (t : TypeId) (vs : List Value) (hr : Rw w g t vs)
    (n : Nat) (e : TypeId) (hu : P.underlying ty = some (.array n e)) (hi : (P.info? ty).map (·.size) = some n) (hn : n = vs.length)
    (h : wpList P ops Q rest (a.put o.dst (.agg vs.toArray)) w) : wpList P ops Q (o :: rest) a w :=
  wpList_step fun K hK => by
    rw [if_pos hgd]
    exact wp_of_gives (R := fun v w' => v = .agg vs.toArray ∧ w' = w) (gives_load_rw ty x ho g hx t vs hr n e hu hi hn ⟨rfl, rfl⟩) (fun v w' ⟨hv, hw⟩ => by subst hv hw; exact hK _ _ h)
end Go.Proofs.YtmanflfanoddgaaDoor
