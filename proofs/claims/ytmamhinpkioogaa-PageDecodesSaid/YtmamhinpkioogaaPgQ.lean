/-
  Where cells are parted: plain.
-/
import Derived.Test.YtmamhinpkioogaaPgY
namespace Go.Proofs.Ytmamhinpkioogaa
open Go.RowKit

theorem hK_best (L : List Cl) : ∀ n, 2 ≤ n → 1 ≤ (hK L n).1 ∧ (hK L n).1 < n ∧ (hK L n).2 = distH L (hK L n).1 ∧ ∀ j, 1 ≤ j → j < n → (hK L n).2 ≤ distH L j := by
  intro n
  induction n with
  | zero => intro h; omega
  | succ n ih =>
    intro h
    rw [hK_succ L n (by omega)]
    by_cases h1 : n = 1
    · subst h1
      have e : hK L 1 = (0, 0) := rfl
      rw [e, if_pos (.inl rfl)]
      exact ⟨Nat.le_refl _, Nat.lt_succ_self 1, rfl, fun j hj hj2 => by
        obtain rfl : j = 1 := (by omega)
        exact Nat.le_refl _⟩
    · obtain ⟨i1, i2, i3, i4⟩ := ih (by omega)
      by_cases hc : (hK L n).1 = 0 ∨ distH L n < (hK L n).2
      · rw [if_pos hc]
        refine ⟨by show 1 ≤ n; omega, Nat.lt_succ_self n, rfl, fun j hj hj2 => ?_⟩
        rcases hc with hc | hc
        · omega
        · by_cases e : j = n
          · rw [e]; exact Nat.le_refl _
          · have := i4 j hj (by omega)
            show distH L n ≤ _
            omega
      · rw [if_neg hc]
        refine ⟨i1, by omega, i3, fun j hj hj2 => ?_⟩
        by_cases e : j = n
        · rw [e]
          have : ¬ distH L n < (hK L n).2 := fun h => hc (.inr h)
          omega
        · exact i4 j hj (by omega)
theorem cross {P : Nat → Prop} (h0 : P 0) : ∀ m, ¬ P m → ∃ k, k < m ∧ P k ∧ ¬ P (k + 1) := by
  intro m
  induction m with
  | zero => intro h; exact absurd h0 h
  | succ m ih =>
    intro h
    by_cases hm : P m
    · exact ⟨m, Nat.lt_succ_self m, hm, h⟩
    · obtain ⟨k, h1, h2⟩ := ih hm
      exact ⟨k, by omega, h2⟩
theorem near {L : List Cl} (hz : ∀ x ∈ L, sz x ≤ 242) (hW : 498 < szs L) : ∃ j, 1 ≤ j ∧ j < L.length ∧ distH L j ≤ 242 := by
  have hlast : szs (L.take L.length) = szs L := by rw [List.take_length]
  have hzero : szs (L.take 0) = 0 := rfl
  obtain ⟨k, hk, h1, h2⟩ := cross (P := fun k => 2 * szs (L.take k) ≤ szs L) (by show 2 * szs (L.take 0) ≤ szs L; omega) L.length (by show ¬ 2 * szs (L.take L.length) ≤ szs L; omega)
  have hx : L[k]? = some L[k] := List.getElem?_eq_getElem hk
  have hs := szs_snoc L k _ hx
  have hb := hz _ (List.getElem_mem hk)
  by_cases hc : szs L - 2 * szs (L.take k) ≤ 242
  · refine ⟨k, ?_, hk, by unfold distH; omega⟩
    rcases Nat.eq_zero_or_pos k with e | e
    · rw [e] at hc; omega
    · exact e
  · refine ⟨k + 1, by omega, ?_, by unfold distH; omega⟩
    by_cases e : k + 1 = L.length
    · rw [e] at hs; omega
    · omega
theorem halves_fit {L : List Cl} (hz : ∀ x ∈ L, sz x ≤ 242) (hW : 498 < szs L) (hW2 : szs L ≤ 740) : 1 ≤ halves L ∧ halves L < L.length ∧ szs (L.take (halves L)) ≤ 498 ∧ szs (L.drop (halves L)) ≤ 498 := by
  obtain ⟨j, j1, j2, j3⟩ := near hz hW
  have hm : max L.length 1 = L.length := by omega
  obtain ⟨i1, i2, i3, i4⟩ := hK_best L L.length (by omega)
  have hb := i4 j j1 j2
  rw [i3] at hb
  unfold halves
  rw [hm]
  have hsp := szs_split L (hK L L.length).1
  have hd : distH L (hK L L.length).1 ≤ 242 := by omega
  unfold distH at hd
  exact ⟨i1, i2, by omega, by omega⟩
theorem formB_facts {kind next : Int} {L : List Cl} (h : formB kind next L = true) : kind ≤ 3 ∧ Rises L ∧ (∀ (j : Nat) (x : Cl), L[j]? = some x → x.1.length ≤ 90 ∧ x.2.length ≤ 150) ∧ szs L ≤ 498 := by
  unfold formB at h
  simp only [Bool.and_eq_true, decide_eq_true_eq] at h
  obtain ⟨⟨⟨⟨h1, h2⟩, h3⟩, h4⟩, h5⟩ := h
  exact ⟨h1, ((fit_iff L).1 h5).1, ((fit_iff L).1 h5).2, h4⟩
theorem szs_append (a b : List Cl) : szs (a ++ b) = szs a + szs b := by unfold szs; rw [List.map_append, List.sum_append]
theorem repl_szs (L : List Cl) (key : List UInt8) (x : Cl) : szs (repl L key [x]) ≤ szs L + sz x := by
  unfold repl
  rw [szs_append, szs_append]
  have h1 := szs_split L (ix L key)
  have h2 := szs_split (L.drop (ix L key)) (if hs L key then 1 else 0)
  rw [List.drop_drop] at h2
  have h3 : szs [x] = sz x := by simp [szs]
  omega
theorem repl_mem {L : List Cl} {key : List UInt8} {x y : Cl} (h : y ∈ repl L key [x]) : y ∈ L ∨ y = x := by
  unfold repl at h
  simp only [List.mem_append, List.mem_singleton] at h
  rcases h with (h | h) | h
  · exact .inl (List.mem_of_mem_take h)
  · exact .inr h
  · exact .inl (List.mem_of_mem_drop h)
/-- What is left to do when a right page has one cell more. -/
theorem parted {kind next : Int} {L : List Cl} {x : Cl} (h : formB kind next L = true) (h1 : x.1.length ≤ 90) (h2 : x.2.length ≤ 150) (hbig : ¬ (szs (repl L x.1 [x]) ≤ 498 ∧ (repl L x.1 [x]).length < 256)) :
    1 ≤ halves (repl L x.1 [x]) ∧ halves (repl L x.1 [x]) < (repl L x.1 [x]).length ∧ formB kind 0 ((repl L x.1 [x]).take (halves (repl L x.1 [x]))) = true ∧ formB kind 0 ((repl L x.1 [x]).drop (halves (repl L x.1 [x]))) = true := by
  obtain ⟨f1, f2, f3, f4⟩ := formB_facts h
  have hx : sz x ≤ 242 := by unfold sz; omega
  have hW2 := repl_szs L x.1 x
  have hge := szs_ge (repl L x.1 [x])
  have hall : ∀ y ∈ repl L x.1 [x], y.1.length ≤ 90 ∧ y.2.length ≤ 150 := fun y hy => by
    rcases repl_mem hy with hy | rfl
    · obtain ⟨j, hj⟩ := List.mem_iff_getElem?.1 hy
      exact f3 j y hj
    · exact ⟨h1, h2⟩
  have hR : Rises (repl L x.1 [x]) := repl_rises1 f2 rfl
  obtain ⟨g1, g2, g3, g4⟩ := halves_fit (L := repl L x.1 [x]) (fun y hy => by have := hall y hy; unfold sz; omega) (by omega) (by omega)
  exact ⟨g1, g2, formB_yes f1 (Int.le_refl _) (by decide) (rises_take hR _) (fun j y hy => hall y (List.mem_of_mem_take (List.mem_of_getElem? hy))) g3,
    formB_yes f1 (Int.le_refl _) (by decide) (rises_drop hR _) (fun j y hy => hall y (List.mem_of_mem_drop (List.mem_of_getElem? hy))) g4⟩
end Go.Proofs.Ytmamhinpkioogaa
