/-
  Two slices of the call's own that grow by turns: an append to one keeps the other.
-/
import Derived.Test.YtmanflfanoddgaaDoorOwn
import Derived.Maps.AppendAt
namespace Go.Proofs.YtmanflfanoddgaaDoor
open Go.RowKit

/-- Their blocks are not the same one. -/
def Apart (u v : Value) : Prop := u.ownBlock = none ∨ u.ownBlock ≠ v.ownBlock
theorem Apart.of_self {u v : Value} (h : Apart u v) : Apart v u := by
  rcases h with h | h
  · rcases hvb : v.ownBlock with _ | g
    · exact .inl hvb
    · exact .inr (by rw [h, hvb]; exact fun e => by cases e)
  · exact .inr fun e => h e.symm
theorem run_cat_at (w : World) (base ty : Nat) (v : Value) (l m : List UInt8) (A : Option Addr) (c : Nat) (hown : Own w base v l) (hr : Rd w A m) (hbase : base ≤ w.heap.size) (hlen : l.length + m.length ≤ 140737488355328) :
    ∃ v' w', (Builtin.append_ #[22, 22] ty #[v, .slice A m.length c]).run Tryd.prog w = .ok v' w' ∧ Own w' base v' (l ++ m) ∧ Below base w w' ∧
      (∀ u k, Own w base u k → Apart u v → Own w' base u k ∧ Apart u v' ∧ Apart v' u) := by
  obtain ⟨i0, hi, hz0, hz1, hz2⟩ := info_parts info_u8
  rcases A with _ | a
  · have hm : m = [] := by
      cases m with
      | nil => rfl
      | cons x xs => obtain ⟨_, _, hA, _⟩ := hr (by simp); cases hA
    subst hm
    exact ⟨v, w, run_append_from_nil w base _ ty _ i0 1 Tryd.underlying22 hi v _ _ hown c, by rw [List.append_nil]; exact hown, Below.refl _ _, fun u k hu hap => ⟨hu, hap, hap.of_self⟩⟩
  have hcells : ∀ j u, (bs m)[j]? = some u → w.cell? (a.add j) = some u := by
    intro j u hu
    by_cases hn : m = []
    · subst hn; simp [bs] at hu
    · exact hr.cells rfl hn j u hu
  obtain ⟨v', w', hrun, h2, h3, _, hat⟩ := run_append_own_at (P := Tryd.prog) w base 22 ty 5 i0 _ 1 1 Tryd.underlying22 hi hz0 hz1 hz2 rfl (by decide) v _ _ hown a m.length c (bs m) (by rw [bs_length]; simp)
    hcells (bs_one m) (by unfold maxLen; omega) (by omega) hbase
  refine ⟨v', w', hrun, ?_, (Below.refl _ _).grown h3 hbase (fun k hk => (hown.lt k hk).1), fun u k hu hap => ⟨World.ownsRow.kept hu h3 hap, ?_⟩⟩
  · unfold Own
    rw [bs_append, List.length_append]
    exact h2
  · have hlt := World.ownsRow.lt hu
    have key : u.ownBlock = none ∨ u.ownBlock ≠ v'.ownBlock := by
      rcases hat with e | e
      · rw [e]; exact hap
      · rcases hub : u.ownBlock with _ | g
        · exact .inl rfl
        · refine .inr fun e2 => ?_
          rw [e] at e2
          have h1 := (hlt g hub).2
          have h2 : g = w.heap.size := Option.some.inj e2
          omega
    refine ⟨key, ?_⟩
    rcases key with h | h
    · rcases hvb : v'.ownBlock with _ | g
      · exact .inl hvb
      · exact .inr (by rw [h, hvb]; exact fun e => by cases e)
    · exact .inr fun e => h e.symm
section
variable {ops : Array Oper} {rest : List Oper} {o : Oper} {a : Act} {Q : Exit → Act → World → Prop}
theorem wpList_push_at {w0 : World} {n : Int} (hgd : Region.wanted o (yielded ops a.tmps) = true) (s x : Operand) (ho : o.op = .call { callee := .builtin .append, args := #[s, x], argTypes := #[22, 22] })
    (base : Nat) (v : Value) (l : List UInt8) (hs : a.eval s = v) (hx : a.eval x = .slice (some ⟨w0.heap.size, 0, none⟩) 1 1) (hown : Own w0 base v l) (h0 : 0 ≤ n) (h1 : n < 256) (hbase : base ≤ w0.heap.size) (hlen : l.length < 140737488355328)
    (h : ∀ v' w', Own w' base v' (l ++ [b8 n]) → Below base w0 w' → (∀ u k, Own w0 base u k → Apart u v → Own w' base u k ∧ Apart u v' ∧ Apart v' u) → wpList Tryd.prog ops Q rest (a.put o.dst v') w') : wpList Tryd.prog ops Q (o :: rest) a (w0.alloc (.cells #[.int .u8 n] 5)) := by
  obtain ⟨v', w', hrun, h2, h3, h4⟩ := run_cat_at (w0.alloc (.cells #[.int .u8 n] 5)) base o.type v l [b8 n] (some ⟨w0.heap.size, 0, none⟩) 1 (hown.alloc _) (Rd.one w0 _ n h0 h1) (by simp; omega) (by simp; omega)
  refine wpList_wanted hgd fun K hK => ?_
  unfold Oper.wp execOp
  simp only [List.length_singleton] at hrun
  simp only [ho, resolve, invoke, builtin, Sem.run_bind, Sem.run_pure, Result.andThen_ok, List.map_toArray, List.map_cons, List.map_nil, hs, hx, hrun]
  exact hK _ _ (h v' w' h2 (((Below.refl base w0).alloc hbase _).trans h3) fun u k hu => h4 u k (hu.alloc _))
theorem wpList_cat_at {w : World} (hgd : Region.wanted o (yielded ops a.tmps) = true) (s x : Operand) (ho : o.op = .call { callee := .builtin .append, args := #[s, x], argTypes := #[22, 22] })
    (base : Nat) (v : Value) (l m : List UInt8) (A : Option Addr) (n c : Nat) (hs : a.eval s = v) (hx : a.eval x = .slice A n c) (hn : n = m.length) (hown : Own w base v l) (hr : Rd w A m) (hbase : base ≤ w.heap.size) (hlen : l.length + m.length ≤ 140737488355328)
    (h : ∀ v' w', Own w' base v' (l ++ m) → Below base w w' → (∀ u k, Own w base u k → Apart u v → Own w' base u k ∧ Apart u v' ∧ Apart v' u) → wpList Tryd.prog ops Q rest (a.put o.dst v') w') : wpList Tryd.prog ops Q (o :: rest) a w := by
  subst hn
  obtain ⟨v', w', hrun, h2, h3, h4⟩ := run_cat_at w base o.type v l m A c hown hr hbase hlen
  refine wpList_wanted hgd fun K hK => ?_
  unfold Oper.wp execOp
  simp only [ho, resolve, invoke, builtin, Sem.run_bind, Sem.run_pure, Result.andThen_ok, List.map_toArray, List.map_cons, List.map_nil, hs, hx, hrun]
  exact hK _ _ (h v' w' h2 h3 h4)
end
end Go.Proofs.YtmanflfanoddgaaDoor
