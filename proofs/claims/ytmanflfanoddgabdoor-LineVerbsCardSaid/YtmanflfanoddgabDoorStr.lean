/-
  'append(p, s...)', p a slice of bytes of the call's own, s a text.
-/
import Derived.Test.YtmanflfanoddgabDoorOwn
import Derived.Lib.AppendStr
namespace Go.Proofs.YtmanflfanoddgabDoor
open Go.RowKit

theorem bs_str (s : ByteArray) : Lib.strCells s = bs s.data.toList := rfl
section
variable {ops : Array Oper} {rest : List Oper} {o : Oper} {a : Act} {Q : Exit → Act → World → Prop} {w : World}
theorem wpList_catS (hgd : o.guard = none) (sl x : Operand) (ho : o.op = .call { callee := .builtin .append, args := #[sl, x], argTypes := #[35, 9] })
    (base : Nat) (v : Value) (l : List UInt8) (s : ByteArray) (hs : a.eval sl = v) (hx : a.eval x = .string s) (hown : Own w base v l) (hbase : base ≤ w.heap.size) (hlen : l.length + s.size ≤ 140737488355328)
    (h : ∀ v' w', Own w' base v' (l ++ s.data.toList) → Below base w w' → wpList Tryd.prog ops Q rest (a.put o.dst v') w') : wpList Tryd.prog ops Q (o :: rest) a w := by
  obtain ⟨i0, hi, hz0, hz1, hz2⟩ := info_parts info_u8
  refine Lib.wpList_append_own_string w hgd sl x _ _ ho base 5 i0 Tryd.underlying35 Tryd.underlying9 hi hz0 hz1 hz2 v l.length (bs l) hs hown s hx (by unfold maxLen; omega) hlen hbase ?_
  intro v' w' h2 h3 _
  refine h v' w' ?_ ((Below.refl _ _).grown h3 hbase (fun k hk => (hown.lt k hk).1))
  have e : l.length + s.size = (l ++ s.data.toList).length := by rw [List.length_append]; rfl
  rw [e, bs_str, ← bs_append] at h2
  exact h2
end
end Go.Proofs.YtmanflfanoddgabDoor
