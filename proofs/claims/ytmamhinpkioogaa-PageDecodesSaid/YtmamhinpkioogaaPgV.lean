/-
  The document's Put: plain, and what it appends.
-/
import Derived.Test.YtmamhinpkioogaaPgP
namespace Go.Proofs.Ytmamhinpkioogaa
open Go.RowKit

theorem OwnV.cells {w0 w : World} {B : Nat} {L : List Cl} {v : Value} (h : OwnV w0 B L w v) (hx : Ext w0 w) : Cells L w v := by
  obtain ⟨vs, h1, h2⟩ := h
  rcases h1.2 with ⟨rfl, h0⟩ | ⟨g, cap, cur, rfl, _, _, hnc, _⟩
  · exact ⟨none, 0, by rw [h0], by rw [h0]; exact Nat.le_refl _, fun hn => absurd (List.length_eq_zero_iff.1 h0) hn⟩
  · refine ⟨_, _, rfl, hnc, fun _ => ⟨g, 0, rfl, fun j x hj => ?_⟩⟩
    obtain ⟨A1, c1, A2, c2, k1, k2, k3, k4, k5, k6⟩ := h2.2 j x hj
    rw [Nat.zero_add]
    exact ⟨A1, c1, A2, c2, (own_cell h1 k1).1, (own_cell h1 k2).1, k3, k4, k5.ext hx, k6.ext hx⟩
section
variable {ops : Array Oper} {rest : List Oper} {o : Oper} {a : Act} {Q : Exit → Act → World → Prop} {w : World}
/-- One cell more. -/
theorem wpList_pushC {w0 wv : World} (hgd : o.guard = none) (s x : Operand) (ho : o.op = .call { callee := .builtin .append, args := #[s, x], argTypes := #[22, 22] })
    (v : Value) (L : List Cl) (y : Cl) (A1 A2 : Option Addr) (n1 n2 c1 c2 : Nat) (hs : a.eval s = v) (hx : a.eval x = .slice (some ⟨wv.heap.size, 0, none⟩) 1 1) (hown : OwnV w0 w0.heap.size L wv v) (e1 : y.1.length = n1) (e2 : y.2.length = n2) (hc1 : n1 ≤ c1) (hc2 : n2 ≤ c2) (r1 : Rd w0 A1 y.1) (r2 : Rd w0 A2 y.2) (hx0 : Ext w0 wv) (hlen : L.length ≤ 100000)
    (h : ∀ v' w', OwnV w0 w0.heap.size (L ++ [y]) w' v' → Ext w0 w' → wpList Try.prog ops Q rest (a.put o.dst v') w') : wpList Try.prog ops Q (o :: rest) a (wv.alloc (.cells #[.slice A1 n1 c1, .slice A2 n2 c2] 40)) := by
  subst e1 e2
  obtain ⟨i0, hi, hz, hsz, hby⟩ := info_partsC
  obtain ⟨vs, hown, hvs⟩ := hown
  have R := Rw.new wv 40 [.slice A1 y.1.length c1, .slice A2 y.2.length c2]
  have hus : RdVs w0 [.slice A1 y.1.length c1, .slice A2 y.2.length c2] [y] := ⟨rfl, fun j z hj => by
    cases j with
    | zero => injection hj with hj; subst hj; exact ⟨A1, c1, A2, c2, rfl, rfl, hc1, hc2, r1, r2⟩
    | succ j => cases hj⟩
  have hown' := own_ext hown (Ext.alloc wv (.cells #[.slice A1 y.1.length c1, .slice A2 y.2.length c2] 40))
  refine wpList_append_own _ hgd s x 22 ho w0.heap.size 40 i0 _ 2 48 Try.underlying22 hi hz hsz hby rfl (by decide) v L.length vs hs hown' ⟨wv.heap.size, 0, none⟩ 1 1 [.slice A1 y.1.length c1, .slice A2 y.2.length c2] hx rfl (fun j u hu => by rw [add_flat, Nat.zero_add]; exact R.cell hu) hus.one (by unfold maxLen; omega) (by omega) (Nat.le_trans hx0.size (Ext.alloc _ _).size) ?_
  intro v' w' h2 h3 _
  refine h v' w' ⟨vs ++ [.slice A1 y.1.length c1, .slice A2 y.2.length c2], by rw [List.length_append]; exact h2, hvs.append hus⟩ ?_
  exact (hx0.trans (Ext.alloc _ _)).grown h3 (Nat.le_trans hx0.size (Ext.alloc _ _).size) (fun k hk => (hown'.lt k hk).1)
end
/-- What is laid behind k cells. -/
def outK (L : List Cl) (x : Cl) (k : Nat) : List Cl := if k ≤ ix L x.1 then L.take k else L.take (ix L x.1) ++ [x] ++ (L.drop (ix L x.1 + if hs L x.1 then 1 else 0)).take (k - (ix L x.1 + if hs L x.1 then 1 else 0))
section
variable {L : List Cl} {x y : Cl} {k : Nat}
theorem outK_lt (h : k < ix L x.1) (hy : L[k]? = some y) : outK L x (k + 1) = outK L x k ++ [y] := by
  unfold outK
  rw [if_pos (by omega), if_pos (by omega), List.take_add_one, hy]
  rfl
theorem outK_eq (h : k = ix L x.1) (hh : hs L x.1 = true) : outK L x (k + 1) = outK L x k ++ [x] := by
  subst h
  unfold outK
  rw [if_neg (by omega), if_pos (Nat.le_refl _), hh, if_pos rfl, Nat.sub_self, List.take_zero, List.append_nil]
theorem outK_new (h : k = ix L x.1) (hh : hs L x.1 = false) (hy : L[k]? = some y) : outK L x (k + 1) = outK L x k ++ [x] ++ [y] := by
  subst h
  unfold outK
  rw [if_neg (by omega), if_pos (Nat.le_refl _), hh, if_neg (by decide)]
  simp only [Nat.add_zero]
  rw [show ix L x.1 + 1 - ix L x.1 = 1 by omega]
  congr 1
  rw [List.take_add_one, List.take_zero, List.getElem?_drop, Nat.add_zero, hy]
  rfl
theorem outK_gt (h : ix L x.1 < k) (hy : L[k]? = some y) : outK L x (k + 1) = outK L x k ++ [y] := by
  unfold outK
  have hb : (if hs L x.1 = true then 1 else 0) ≤ 1 := by split <;> omega
  generalize (if hs L x.1 = true then 1 else 0) = b at hb ⊢
  rw [if_neg (show ¬ k + 1 ≤ ix L x.1 by omega), if_neg (show ¬ k ≤ ix L x.1 by omega)]
  rw [show k + 1 - (ix L x.1 + b) = k - (ix L x.1 + b) + 1 by omega, List.take_add_one, List.getElem?_drop, show ix L x.1 + b + (k - (ix L x.1 + b)) = k by omega, hy]
  simp
theorem outK_end (h : ix L x.1 < k) (hk : L.length ≤ k) : outK L x k = repl L x.1 [x] := by
  unfold outK repl
  generalize (if hs L x.1 = true then 1 else 0) = b
  rw [if_neg (show ¬ k ≤ ix L x.1 by omega)]
  congr 1
  exact List.take_of_length_le (by rw [List.length_drop]; omega)
theorem outK_last (h : ix L x.1 = L.length) : outK L x L.length ++ [x] = repl L x.1 [x] := by
  unfold outK repl
  rw [if_pos (by omega), h, List.take_length, List.drop_eq_nil_of_le (by omega), List.append_nil]
theorem gt_less (hR : Rises L) (h : ix L x.1 < k) (hy : L[k]? = some y) : Op.bytesLess x.1 y.1 = true := by
  have hp := (parts hR x.1).2
  refine hp y ?_
  have hb : (if hs L x.1 = true then 1 else 0) ≤ 1 := by split <;> omega
  generalize (if hs L x.1 = true then 1 else 0) = b at hb ⊢
  rw [List.mem_iff_getElem?]
  exact ⟨k - (ix L x.1 + b), by rw [List.getElem?_drop, show ix L x.1 + b + (k - (ix L x.1 + b)) = k by omega, hy]⟩
theorem at_hs (hR : Rises L) (h : k = ix L x.1) (hy : L[k]? = some y) : hs L x.1 = (y.1 == x.1) := by
  have := hs_at hR x.1
  rw [← h, hy] at this
  exact this
theorem outK_len : (outK L x k).length ≤ L.length + 1 := by
  unfold outK
  split
  · simp; omega
  · have := ix_le L x.1
    simp
    omega
end
end Go.Proofs.Ytmamhinpkioogaa
