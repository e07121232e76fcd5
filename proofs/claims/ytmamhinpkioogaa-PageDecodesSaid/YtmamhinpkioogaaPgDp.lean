/-
  'append' of one cell whose key and value are of the call's own, onto a slice of such cells.
-/
import Derived.Test.YtmamhinpkioogaaPgDg
namespace Go.Proofs.Ytmamhinpkioogaa
open Go.RowKit

theorem own_grown {w w' : World} {B e size n : Nat} {u : Value} {us : List Value} {row : Option Nat} (h : w.ownsRow B e size u n us) (hg : w.grownBy w' row) (hne : ∀ k, u.ownBlock = some k → row ≠ some k) : w'.ownsRow B e size u n us := by
  refine ⟨h.1, ?_⟩
  rcases h.2 with hn | ⟨g, cap, cur, rfl, hb, hh, rest⟩
  · exact .inl hn
  · refine .inr ⟨g, cap, cur, rfl, hb, ?_, rest⟩
    have hlt : g < w.heap.size := by
      rcases Nat.lt_or_ge g w.heap.size with h' | h'
      · exact h'
      · rw [Array.getElem?_eq_none h'] at hh; cases hh
    rw [hg.block g hlt (Ne.symm (hne g rfl))]
    exact hh
section
variable {ops : Array Oper} {rest : List Oper} {o : Oper} {a : Act} {Q : Exit → Act → World → Prop}
theorem wpList_pushO {wv : World} (hgd : o.guard = none) (s x : Operand) (ho : o.op = .call { callee := .builtin .append, args := #[s, x], argTypes := #[22, 22] })
    (base : Nat) (v : Value) (L : List Cl) (y : Cl) (v1 v2 : Value) (hs : a.eval s = v) (hx : a.eval x = .slice (some ⟨wv.heap.size, 0, none⟩) 1 1) (hown : CellsO base L wv v) (o1 : Own wv base v1 y.1) (o2 : Own wv base v2 y.2) (hbase : base ≤ wv.heap.size) (hlen : L.length ≤ 100000)
    (h : ∀ v' w', CellsO base (L ++ [y]) w' v' → wv.grownBy w' v.ownBlock → wpList Try.prog ops Q rest (a.put o.dst v') w') : wpList Try.prog ops Q (o :: rest) a (wv.alloc (.cells #[v1, v2] 40)) := by
  obtain ⟨i0, hi, hz, hsz, hby⟩ := info_partsC
  obtain ⟨vs, hown, hvs⟩ := hown
  have R := Rw.new wv 40 [v1, v2]
  have hX := Ext.alloc wv (.cells #[v1, v2] 40)
  have hown' := own_ext hown hX
  obtain ⟨A1, d1, e1, -, -⟩ := Own.slice o1
  obtain ⟨A2, d2, e2, -, -⟩ := Own.slice o2
  have hone : ∀ u ∈ [v1, v2], u.oneCell' = true := by
    intro u hu
    rcases List.mem_cons.1 hu with rfl | hu
    · rw [e1]; rfl
    · rw [List.mem_singleton.1 hu, e2]; rfl
  have hvl : vs.length = L.length * 2 := hown.1
  refine wpList_append_own _ hgd s x 22 ho base 40 i0 _ 2 48 Try.underlying22 hi hz hsz hby rfl (by decide) v L.length vs hs hown' ⟨wv.heap.size, 0, none⟩ 1 1 [v1, v2] hx rfl (fun j u hu => by rw [add_flat, Nat.zero_add]; exact R.cell hu) hone (by unfold maxLen; omega) (by omega) (Nat.le_trans hbase hX.size) ?_
  intro v' w' h2 h3 _
  have keep : ∀ {u : Value} {l : List UInt8}, Own wv base u l → Own w' base u l := fun {u l} hu => own_grown (own_ext hu hX) h3 (fun k hk e => own_apart hown' (own_ext hu hX) (by decide) k e hk)
  refine h v' w' ⟨vs ++ [v1, v2], by rw [List.length_append]; exact h2, fun j z hj => ?_⟩ ⟨h3.os, h3.tape, h3.output, Nat.le_trans hX.size h3.size, fun k hk hne => (h3.block k (Nat.lt_of_lt_of_le hk hX.size) hne).trans (Below.heap_alloc wv _ k hk)⟩
  rcases Nat.lt_or_ge j L.length with hlt | hge
  · rw [List.getElem?_append_left hlt] at hj
    obtain ⟨z1, z2, k1, k2, k3, k4⟩ := hvs j z hj
    exact ⟨z1, z2, by rw [List.getElem?_append_left (by omega)]; exact k1, by rw [List.getElem?_append_left (by omega)]; exact k2, keep k3, keep k4⟩
  · rw [List.getElem?_append_right hge] at hj
    obtain ⟨d, hd⟩ : ∃ d, j - L.length = d := ⟨_, rfl⟩
    rw [hd] at hj
    cases d with
    | succ d => cases hj
    | zero =>
      injection hj with hj
      subst hj
      have hjl : j = L.length := by omega
      subst hjl
      exact ⟨v1, v2, by rw [List.getElem?_append_right (by omega), hvl, Nat.sub_self]; rfl, by rw [List.getElem?_append_right (by omega), hvl, show L.length * 2 + 1 - L.length * 2 = 1 by omega]; rfl, keep o1, keep o2⟩
end
theorem CellsO.nil (B : Nat) (w : World) : CellsO B [] w (.slice none 0 0) := ⟨[], World.ownsRow_nil _ _ _ _, fun j x h => by cases h⟩
/-- They stay where a block below them is written. -/
theorem CellsO.same {w w' : World} {B hb : Nat} {v : Value} {L : List Cl} (h : CellsO B L w v) (hB : hb < B) (hx : ∀ j, j ≠ hb → j < w.heap.size → w'.heap[j]? = w.heap[j]?) : CellsO B L w' v := by
  obtain ⟨vs, h1, h2⟩ := h
  refine ⟨vs, ?_, fun j x hj => ?_⟩
  · refine ⟨h1.1, ?_⟩
    rcases h1.2 with hn | ⟨g, cap, cur, e, hg, hh, rest⟩
    · exact .inl hn
    · refine .inr ⟨g, cap, cur, e, hg, ?_, rest⟩
      rw [hx g (by omega) ?_]
      · exact hh
      · rcases Nat.lt_or_ge g w.heap.size with h' | h'
        · exact h'
        · rw [Array.getElem?_eq_none h'] at hh; cases hh
  · obtain ⟨z1, z2, k1, k2, k3, k4⟩ := h2 j x hj
    exact ⟨z1, z2, k1, k2, own_same k3 hB hx, own_same k4 hB hx⟩
theorem CellsO.ext {w w' : World} {B : Nat} {v : Value} {L : List Cl} (h : CellsO B L w v) (hx : Ext w w') : CellsO B L w' v := by
  obtain ⟨vs, h1, h2⟩ := h
  refine ⟨vs, own_ext h1 hx, fun j x hj => ?_⟩
  obtain ⟨z1, z2, k1, k2, k3, k4⟩ := h2 j x hj
  exact ⟨z1, z2, k1, k2, k3.ext hx, k4.ext hx⟩
end Go.Proofs.Ytmamhinpkioogaa
