/-
  Slices of texts: those that read as a list, and those that the call itself makes by append.
-/
import Derived.Test.YtmabminjmcjafaaOwn
namespace Go.Proofs.Ytmabminjmcjafaa
open Go.RowKit

/-- The slice at A reads, from its beginning on, as the values vs. -/
def RdV (w : World) (A : Option Addr) (vs : List Value) : Prop :=
  vs ≠ [] → ∃ b off, A = some ⟨b, off, none⟩ ∧ ∀ j u, vs[j]? = some u → w.cell? ⟨b, off + j, none⟩ = some u
theorem RdV.keep {w w' : World} {A : Option Addr} {vs : List Value} (h : RdV w A vs) (hx : Keeps w w') : RdV w' A vs := fun hn => by
  obtain ⟨b, off, hA, hc⟩ := h hn
  exact ⟨b, off, hA, fun j u hu => hx.cell (hc j u hu)⟩
theorem RdV.ext {w w' : World} {A : Option Addr} {vs : List Value} (h : RdV w A vs) (hx : Ext w w') : RdV w' A vs := h.keep hx.keeps
theorem RdV.at {w : World} {A : Option Addr} {vs : List Value} (h : RdV w A vs) {k : Nat} {u : Value} (hk : vs[k]? = some u) : ∃ b off, A = some ⟨b, off, none⟩ ∧ w.cell? ⟨b, off + k, none⟩ = some u := by
  obtain ⟨b, off, hA, hc⟩ := h (by intro e; subst e; simp at hk)
  exact ⟨b, off, hA, hc k u hk⟩
theorem RdV.drop {w : World} {a : Addr} {vs : List Value} (h : RdV w (some a) vs) (k : Nat) : RdV w (some (a.add k)) (vs.drop k) := fun hn => by
  obtain ⟨b, off, hA, hc⟩ := h (by intro e; subst e; simp at hn)
  injection hA with hA
  subst hA
  refine ⟨b, off + k, by rw [add_flat], fun j u hu => ?_⟩
  rw [Nat.add_assoc]
  exact hc _ u (by rw [← hu, List.getElem?_drop])
/-- Texts as values. -/
def tvs (ls : List (List UInt8)) : List Value := ls.map fun l => .string ⟨l.toArray⟩
theorem tvs_get (ls : List (List UInt8)) (k : Nat) (l : List UInt8) (h : ls[k]? = some l) : (tvs ls)[k]? = some (.string ⟨l.toArray⟩) := by simp [tvs, h]
theorem tvs_length (ls : List (List UInt8)) : (tvs ls).length = ls.length := by simp [tvs]
theorem tvs_append (a b : List (List UInt8)) : tvs (a ++ b) = tvs a ++ tvs b := by simp [tvs]
theorem tvs_drop (a : List (List UInt8)) (k : Nat) : tvs (a.drop k) = (tvs a).drop k := by simp [tvs]
/-- A slice of just these texts. -/
def Txs (ls : List (List UInt8)) (w : World) (v : Value) : Prop := ∃ A c, v = .slice A ls.length c ∧ ls.length ≤ c ∧ RdV w A (tvs ls)
theorem Txs.ext {ls : List (List UInt8)} {w w' : World} {v : Value} (h : Txs ls w v) (hx : Ext w w') : Txs ls w' v := by
  obtain ⟨A, c, hv, hc, hr⟩ := h
  exact ⟨A, c, hv, hc, hr.ext hx⟩
theorem Txs.nil (w : World) : Txs [] w (.slice none 0 0) := ⟨none, 0, rfl, Nat.le_refl _, fun h => absurd rfl h⟩
/-- The value v is a slice of the call's own (in a block from base on, or nil) that holds just these texts. -/
def OwnT (w : World) (base : Nat) (v : Value) (ls : List (List UInt8)) : Prop := w.ownsRow base 9 1 v ls.length (tvs ls)
theorem OwnT.nil (w : World) (base : Nat) : OwnT w base (.slice none 0 0) [] := World.ownsRow_nil _ _ _ _
theorem OwnT.ext {w w' : World} {base : Nat} {v : Value} {ls : List (List UInt8)} (h : OwnT w base v ls) (hx : Ext w w') : OwnT w' base v ls := by
  refine ⟨h.1, ?_⟩
  rcases h.2 with hn | ⟨g, cap, cur, rfl, hb, hg, rest⟩
  · exact .inl hn
  · refine .inr ⟨g, cap, cur, rfl, hb, ?_, rest⟩
    have hlt : g < w.heap.size := by
      rcases Nat.lt_or_ge g w.heap.size with h' | h'
      · exact h'
      · rw [Array.getElem?_eq_none h'] at hg; cases hg
    rw [Below.block hx g hlt]
    exact hg
theorem OwnT.txs {w : World} {base : Nat} {v : Value} {ls : List (List UInt8)} (h : OwnT w base v ls) : Txs ls w v := by
  rcases h.2 with ⟨rfl, h0⟩ | ⟨g, cap, cur, rfl, _, _, hnc, _⟩
  · have : ls = [] := List.length_eq_zero_iff.1 h0
    subst this
    exact Txs.nil w
  · refine ⟨_, _, rfl, hnc, fun _ => ⟨g, 0, rfl, fun j u hu => ?_⟩⟩
    have := h.cells (g := g) rfl j u hu
    rw [add_flat] at this
    exact this
theorem info_txt : (Try.prog.info? 9).map (fun i => (i.zero.map (·.cells.size), i.size, i.bytes)) = some (some 1, 1, 16) := by kernel_rfl
section
variable {ops : Array Oper} {rest : List Oper} {o : Oper} {a : Act} {Q : Exit → Act → World → Prop}
/-- 'v = append(v, s)', one text. -/
theorem wpList_pushT {w0 : World} (hgd : o.guard = none) (s x : Operand) (ho : o.op = .call { callee := .builtin .append, args := #[s, x], argTypes := #[36, 36] })
    (base : Nat) (v : Value) (ls : List (List UInt8)) (b : ByteArray) (hs : a.eval s = v) (hx : a.eval x = .slice (some ⟨w0.heap.size, 0, none⟩) 1 1) (hown : OwnT w0 base v ls) (hbase : base ≤ w0.heap.size) (hlen : ls.length < 4398046511104)
    (h : ∀ v' w', OwnT w' base v' (ls ++ [b.data.toList]) → Below base w0 w' → Hid (∀ p u, w0.cell? p = some u → v.ownBlock ≠ some p.block → w'.cell? p = some u) → wpList Try.prog ops Q rest (a.put o.dst v') w') : wpList Try.prog ops Q (o :: rest) a (w0.alloc (.cells #[.string b] 9)) := by
  obtain ⟨i0, z0, hi, hz, hzs, hsz, hby⟩ : ∃ i0 z0, Try.prog.info? 9 = some i0 ∧ i0.zero = some z0 ∧ z0.cells.size = 1 ∧ i0.size = 1 ∧ i0.bytes = 16 := by
    have h := info_txt
    cases hq : Try.prog.info? 9 with
    | none => rw [hq] at h; cases h
    | some i =>
      rw [hq] at h
      simp only [Option.map_some, Option.some.injEq, Prod.mk.injEq] at h
      cases hzz : i.zero with
      | none => rw [hzz] at h; simp at h
      | some z => rw [hzz] at h; simp at h; exact ⟨i, z, rfl, hzz, h.1, h.2.1, h.2.2⟩
  have hown' : (w0.alloc (.cells #[.string b] 9)).ownsRow base 9 1 v ls.length (tvs ls) := World.ownsRow.alloc hown _
  refine wpList_append_own _ hgd s x 36 ho base 9 i0 z0 1 16 Try.underlying36 hi hz hsz hby hzs (by decide) v ls.length (tvs ls) hs hown' ⟨w0.heap.size, 0, none⟩ 1 1 [.string b] hx rfl ?_ ?_ (by unfold maxLen; omega) (by omega) (by simp; omega) ?_
  · intro j u hu
    rw [add_flat, cell_of_row _ w0.heap.size (0 + j) _ 9 (0, 0) (heap_alloc_new w0 _), Nat.zero_add, List.getElem?_toArray, hu]
  · intro u hu
    rw [List.mem_singleton.1 hu]
    rfl
  · intro v' w' h2 h3 _
    refine h v' w' ?_ ((((Below.refl base w0).alloc hbase _).grown h3 (by simp; omega) (fun k hk => (hown'.lt k hk).1))) (hide fun p u hu hne => ?_)
    · unfold OwnT
      rw [tvs_append, List.length_append]
      exact h2
    · have hlt := World.block_lt_of_cell? w0 _ hu
      have h5 := h3.block p.block (by simp; omega) (fun e => hne e.symm)
      have h6 := Below.heap_alloc w0 (.cells #[.string b] 9) p.block hlt
      exact (World.cell?_of_block (h5.trans h6)).trans hu
end
end Go.Proofs.Ytmabminjmcjafaa
