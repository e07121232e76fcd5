/-
  'append' of a text onto a slice of texts of the call's own: all other blocks stay.
-/
import Derived.Test.YtmabminjmcjafaaTvs
namespace Go.Proofs.Ytmabminjmcjafaa
open Go.RowKit

section
variable {ops : Array Oper} {rest : List Oper} {o : Oper} {a : Act} {Q : Exit → Act → World → Prop}
/-- 'v = append(v, s)', one text: what is told of the other blocks. -/
theorem wpList_pushG {w0 : World} (hgd : o.guard = none) (s x : Operand) (ho : o.op = .call { callee := .builtin .append, args := #[s, x], argTypes := #[36, 36] })
    (base : Nat) (v : Value) (ls : List (List UInt8)) (b : ByteArray) (hs : a.eval s = v) (hx : a.eval x = .slice (some ⟨w0.heap.size, 0, none⟩) 1 1) (hown : OwnT w0 base v ls) (hbase : base ≤ w0.heap.size) (hlen : ls.length < 4398046511104)
    (h : ∀ v' w', OwnT w' base v' (ls ++ [b.data.toList]) → w0.grownBy w' v.ownBlock → wpList Try.prog ops Q rest (a.put o.dst v') w') : wpList Try.prog ops Q (o :: rest) a (w0.alloc (.cells #[.string b] 9)) := by
  obtain ⟨i0, z0, hi, hz, hzs, hsz, hby⟩ : ∃ i0 z0, Try.prog.info? 9 = some i0 ∧ i0.zero = some z0 ∧ z0.cells.size = 1 ∧ i0.size = 1 ∧ i0.bytes = 16 := by
    have h := info_txt
    cases hq : Try.prog.info? 9 with
    | none => rw [hq] at h; cases h
    | some i =>
      rw [hq] at h
      simp only [Option.map_some, Option.some.injEq, Prod.mk.injEq] at h
      cases hzz : i.zero with
      | none => rw [hzz] at h; simp at h
      | some z => rw [hzz] at h; simp at h; exact ⟨i, z, rfl, hzz, h.1, h.2.1, h.2.2⟩
  have hown' : (w0.alloc (.cells #[.string b] 9)).ownsRow base 9 1 v ls.length (tvs ls) := World.ownsRow.alloc hown _
  refine wpList_append_own _ hgd s x 36 ho base 9 i0 z0 1 16 Try.underlying36 hi hz hsz hby hzs (by decide) v ls.length (tvs ls) hs hown' ⟨w0.heap.size, 0, none⟩ 1 1 [.string b] hx rfl ?_ ?_ (by unfold maxLen; omega) (by omega) (by simp; omega) ?_
  · intro j u hu
    rw [add_flat, cell_of_row _ w0.heap.size (0 + j) _ 9 (0, 0) (heap_alloc_new w0 _), Nat.zero_add, List.getElem?_toArray, hu]
  · intro u hu
    rw [List.mem_singleton.1 hu]
    rfl
  · intro v' w' h2 h3 _
    refine h v' w' ?_ ⟨h3.os, h3.tape, h3.output, Nat.le_trans (by simp) h3.size, fun k hk hne => (h3.block k (by simp; omega) hne).trans (Below.heap_alloc w0 _ k hk)⟩
    unfold OwnT
    rw [tvs_append, List.length_append]
    exact h2
end
end Go.Proofs.Ytmabminjmcjafaa
