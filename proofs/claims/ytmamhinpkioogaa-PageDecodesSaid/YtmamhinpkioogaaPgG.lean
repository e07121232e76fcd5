/-
  slices.Grow of nothing, slices.Concat of three slices of cells: contracts.
-/
import Derived.Test.YtmamhinpkioogaaPgF
import Derived.Lib.AppendZeros
namespace Go.Proofs.Ytmamhinpkioogaa
open Go.RowKit

/-- Values that read as cells. -/
def RdVs (w : World) (vs : List Value) (L : List Cl) : Prop := vs.length = L.length * 2 ∧ ∀ j x, L[j]? = some x → ∃ A1 c1 A2 c2, vs[j * 2]? = some (.slice A1 x.1.length c1) ∧ vs[j * 2 + 1]? = some (.slice A2 x.2.length c2) ∧ x.1.length ≤ c1 ∧ x.2.length ≤ c2 ∧ Rd w A1 x.1 ∧ Rd w A2 x.2
theorem RdVs.append {w : World} {vs us : List Value} {L M : List Cl} (h : RdVs w vs L) (k : RdVs w us M) : RdVs w (vs ++ us) (L ++ M) := by
  refine ⟨by rw [List.length_append, List.length_append, h.1, k.1]; omega, fun j x hj => ?_⟩
  by_cases hlt : j < L.length
  · rw [List.getElem?_append_left hlt] at hj
    obtain ⟨A1, c1, A2, c2, h1, h2, rest⟩ := h.2 j x hj
    exact ⟨A1, c1, A2, c2, by rw [List.getElem?_append_left (by rw [h.1]; omega)]; exact h1, by rw [List.getElem?_append_left (by rw [h.1]; omega)]; exact h2, rest⟩
  · rw [List.getElem?_append_right (by omega)] at hj
    obtain ⟨A1, c1, A2, c2, h1, h2, rest⟩ := k.2 _ x hj
    exact ⟨A1, c1, A2, c2, by rw [List.getElem?_append_right (by rw [h.1]; omega), h.1, show j * 2 - L.length * 2 = (j - L.length) * 2 by omega]; exact h1, by rw [List.getElem?_append_right (by rw [h.1]; omega), h.1, show j * 2 + 1 - L.length * 2 = (j - L.length) * 2 + 1 by omega]; exact h2, rest⟩
theorem RdVs.one {w : World} {vs : List Value} {L : List Cl} (h : RdVs w vs L) : ∀ u ∈ vs, u.oneCell' = true := by
  intro u hu
  obtain ⟨i, hi, rfl⟩ := List.getElem_of_mem hu
  have hlt : i / 2 < L.length := by have := h.1; omega
  obtain ⟨A1, c1, A2, c2, h1, h2, _⟩ := h.2 (i / 2) L[i / 2] (List.getElem?_eq_getElem hlt)
  rcases Nat.mod_two_eq_zero_or_one i with e | e
  · rw [show i / 2 * 2 = i by omega, List.getElem?_eq_getElem hi] at h1
    injection h1 with h1
    rw [h1]; rfl
  · rw [show i / 2 * 2 + 1 = i by omega, List.getElem?_eq_getElem hi] at h2
    injection h2 with h2
    rw [h2]; rfl
theorem RdC.vals {w : World} : ∀ {L : List Cl} {A : Option Addr}, RdC w A L → ∃ vs, RdVs w vs L ∧ ∀ a, A = some a → ∀ j u, vs[j]? = some u → w.cell? (a.add j) = some u
  | [], A, _ => ⟨[], ⟨rfl, fun j x h => by cases h⟩, fun a _ j u h => by cases h⟩
  | x :: L, A, h => by
    obtain ⟨b, off, A1, c1, A2, c2, rfl, h1, h2, h3⟩ := h.at (j := 0) rfl
    obtain ⟨vs, hv, hc⟩ := RdC.vals (h.drop 1)
    refine ⟨.slice A1 x.1.length c1 :: .slice A2 x.2.length c2 :: vs, ⟨?_, fun j y hj => ?_⟩, fun a ha j u hj => ?_⟩
    · simp only [List.length_cons, hv.1, List.drop_succ_cons, List.drop_zero]; omega
    · cases j with
      | zero => injection hj with hj; subst hj; exact ⟨A1, c1, A2, c2, rfl, rfl, h3⟩
      | succ j =>
        obtain ⟨B1, d1, B2, d2, k1, k2, k3⟩ := hv.2 j y hj
        exact ⟨B1, d1, B2, d2, by rw [show (j + 1) * 2 = j * 2 + 1 + 1 by omega]; exact k1, by rw [show (j + 1) * 2 + 1 = j * 2 + 1 + 1 + 1 by omega]; exact k2, k3⟩
    · injection ha with ha
      subst ha
      rw [add_flat]
      match j with
      | 0 => injection hj with hj; rw [← hj]; simpa using h1
      | 1 => injection hj with hj; rw [← hj]; simpa using h2
      | j + 2 =>
        have := hc _ rfl j u hj
        rw [add_flat] at this
        rw [show off + (j + 2) = off + 1 * 2 + j by omega]
        exact this
theorem info_cell : (Try.prog.info? 40).map (fun i => (i.zero, i.size, i.bytes)) = some (some (.agg #[.slice none 0 0, .slice none 0 0]), 2, 48) := by kernel_rfl
/-- A slice of cells of the call's own; the keys and values lie where they lay in w0. -/
def OwnV (w0 : World) (B : Nat) (L : List Cl) (w : World) (v : Value) : Prop := ∃ vs, w.ownsRow B 40 2 v L.length vs ∧ RdVs w0 vs L
theorem OwnV.slice {w0 w : World} {B : Nat} {L : List Cl} {v : Value} (h : OwnV w0 B L w v) : ∃ A c, v = .slice A L.length c ∧ L.length ≤ c := by
  obtain ⟨vs, h1, _⟩ := h
  rcases h1.2 with ⟨rfl, h0⟩ | ⟨g, cap, cur, rfl, _, _, hnc, _⟩
  · exact ⟨none, 0, by rw [h0], by rw [h0]; exact Nat.le_refl _⟩
  · exact ⟨_, _, rfl, hnc⟩
theorem OwnV.ext {w0 w w' : World} {B : Nat} {L : List Cl} {v : Value} (h : OwnV w0 B L w v) (hx : Ext w w') : OwnV w0 B L w' v := by
  obtain ⟨vs, h1, h2⟩ := h
  refine ⟨vs, ⟨h1.1, ?_⟩, h2⟩
  rcases h1.2 with hn | ⟨g, cap, cur, rfl, hb, hg, rest⟩
  · exact .inl hn
  · exact .inr ⟨g, cap, cur, rfl, hb, (Below.block hx g (Array.getElem?_eq_some_iff.1 hg).1).trans hg, rest⟩
theorem info_partsC : ∃ i0, Try.prog.info? 40 = some i0 ∧ i0.zero = some (.agg #[.slice none 0 0, .slice none 0 0]) ∧ i0.size = 2 ∧ i0.bytes = 48 := by
  have h := info_cell
  cases hq : Try.prog.info? 40 with
  | none => rw [hq] at h; cases h
  | some i =>
    rw [hq] at h
    simp only [Option.map_some, Option.some.injEq, Prod.mk.injEq] at h
    exact ⟨i, rfl, h.1, h.2.1, h.2.2⟩
section
variable {ops : Array Oper} {rest : List Oper} {o : Oper} {a : Act} {Q : Exit → Act → World → Prop} {w : World}
theorem wpList_catC {w0 : World} (hgd : o.guard = none) (s x : Operand) (ho : o.op = .call { callee := .builtin .append, args := #[s, x], argTypes := #[22, 22] })
    (v : Value) (L M : List Cl) (A : Option Addr) (n c : Nat) (hs : a.eval s = v) (hx : a.eval x = .slice A n c) (hn : n = M.length) (hown : OwnV w0 w0.heap.size L w v) (hr : RdC w0 A M) (hx0 : Ext w0 w) (hlen : L.length + M.length ≤ 1000000)
    (h : ∀ v' w', OwnV w0 w0.heap.size (L ++ M) w' v' → Ext w0 w' → wpList Try.prog ops Q rest (a.put o.dst v') w') : wpList Try.prog ops Q (o :: rest) a w := by
  subst hn
  obtain ⟨i0, hi, hz, hsz, hby⟩ := info_partsC
  obtain ⟨vs, hown, hvs⟩ := hown
  obtain ⟨us, hus, hcs⟩ := hr.vals
  rcases A with _ | ad
  · have hM : M = [] := by
      cases M with
      | nil => rfl
      | cons y ys => obtain ⟨_, _, hA, _⟩ := hr (by simp); cases hA
    subst hM
    have hrun := run_append_from_nil (P := Try.prog) w w0.heap.size 22 o.type 40 i0 2 Try.underlying22 hi v L.length vs hown c
    refine wpList_wanted (by simp [Region.wanted, hgd]) fun K hK => ?_
    unfold Oper.wp execOp
    simp only [ho, resolve, invoke, builtin, Sem.run_bind, Sem.run_pure, Result.andThen_ok, List.map_toArray, List.map_cons, List.map_nil, hs, hx, List.length_nil, hrun]
    refine hK _ _ (h v w ?_ hx0)
    rw [List.append_nil]
    exact ⟨vs, hown, hvs⟩
  · refine wpList_append_own _ hgd s x 22 ho w0.heap.size 40 i0 _ 2 48 Try.underlying22 hi hz hsz hby rfl (by decide) v L.length vs hs hown ad M.length c us hx hus.1 (fun j u hu => hx0.keeps.cell (hcs ad rfl j u hu)) hus.one (by unfold maxLen; omega) (by omega) hx0.size ?_
    intro v' w' h2 h3 _
    refine h v' w' ⟨vs ++ us, by rw [List.length_append]; exact h2, hvs.append hus⟩ ?_
    exact hx0.grown h3 hx0.size (fun k hk => (hown.lt k hk).1)
end
end Go.Proofs.Ytmamhinpkioogaa
