/-
  Cells put and dropped: plain.
-/
import Derived.Test.YtmamhinpkioogaaPgU
namespace Go.Proofs.Ytmamhinpkioogaa
open Go.RowKit

theorem rises_append : ∀ {a c : List Cl}, Rises a → Rises c → (∀ x ∈ a, ∀ y ∈ c, Op.bytesLess x.1 y.1 = true) → Rises (a ++ c)
  | [], _, _, hc, _ => hc
  | x :: a, c, ha, hc, h => ⟨fun y hy => by
      rcases List.mem_append.1 hy with hy | hy
      · exact ha.1 y hy
      · exact h x (by simp) y hy, rises_append ha.2 hc (fun z hz => h z (by simp [hz]))⟩
theorem rises_take : ∀ {L : List Cl}, Rises L → ∀ k, Rises (L.take k)
  | [], _, k => by simp; trivial
  | x :: L, h, 0 => trivial
  | x :: L, h, k + 1 => ⟨fun y hy => h.1 y (List.mem_of_mem_take hy), rises_take h.2 k⟩
theorem rises_drop : ∀ {L : List Cl}, Rises L → ∀ k, Rises (L.drop k)
  | [], _, k => by simp; trivial
  | x :: L, h, 0 => h
  | x :: L, h, k + 1 => rises_drop h.2 k
/-- What stands ahead of a key and behind it. -/
theorem parts : ∀ {L : List Cl}, Rises L → ∀ (key : List UInt8), (∀ y ∈ L.take (ix L key), Op.bytesLess y.1 key = true) ∧ (∀ y ∈ L.drop (ix L key + if hs L key then 1 else 0), Op.bytesLess key y.1 = true)
  | [], _, key => ⟨fun y hy => by simp at hy, fun y hy => by simp at hy⟩
  | z :: L, hR, key => by
    have ih := parts hR.2 key
    cases hb : Op.bytesLess z.1 key with
    | true =>
      have hk : (z.1 == key) = false := by
        rw [beq_eq_false_iff_ne]; intro e; rw [e, less_self] at hb; cases hb
      have hh : hs (z :: L) key = hs L key := by unfold hs; rw [List.any_cons, hk, Bool.false_or]
      rw [ix_cons_lt hb, hh]
      refine ⟨fun y hy => ?_, fun y hy => ih.2 y ?_⟩
      · rw [List.take_succ_cons] at hy
        rcases List.mem_cons.1 hy with rfl | hy
        · exact hb
        · exact ih.1 y hy
      · rw [show ix L key + 1 + (if hs L key = true then 1 else 0) = (ix L key + if hs L key = true then 1 else 0) + 1 by omega, List.drop_succ_cons] at hy
        exact hy
    | false =>
      rw [ix_cons_ge hb]
      refine ⟨fun y hy => by simp at hy, fun y hy => ?_⟩
      by_cases hk : z.1 = key
      · have hh : hs (z :: L) key = true := by unfold hs; rw [List.any_cons, hk]; simp
        rw [hh, if_pos rfl, Nat.zero_add, List.drop_succ_cons, List.drop_zero] at hy
        rw [← hk]
        exact hR.1 y hy
      · have hlt : Op.bytesLess key z.1 = true := by
          cases h2 : Op.bytesLess key z.1 with
          | true => rfl
          | false => exact absurd (less_total _ _ hb h2) hk
        have hall : ∀ y ∈ z :: L, Op.bytesLess key y.1 = true := fun y hy => by
          rcases List.mem_cons.1 hy with rfl | hy
          · exact hlt
          · exact less_trans _ _ _ hlt (hR.1 y hy)
        exact hall y (List.mem_of_mem_drop hy)
theorem ix_parts {a c : List Cl} {key : List UInt8} (ha : ∀ y ∈ a, Op.bytesLess y.1 key = true) (hc : ∀ y ∈ c, Op.bytesLess y.1 key = false) : ix (a ++ c) key = a.length := by
  induction a with
  | nil =>
    cases c with
    | nil => rfl
    | cons z c => rw [List.nil_append, ix_cons_ge (hc z (by simp))]; rfl
  | cons z a ih =>
    rw [List.cons_append, ix_cons_lt (ha z (by simp)), ih (fun y hy => ha y (by simp [hy]))]
    rfl
theorem ne_of_less {a b : List UInt8} (h : Op.bytesLess a b = true) : a ≠ b := fun e => by rw [e, less_self] at h; cases h
theorem hs_no {a : List Cl} {key : List UInt8} (h : ∀ y ∈ a, y.1 ≠ key) : hs a key = false := by
  unfold hs
  rw [List.any_eq_false]
  intro y hy e
  exact h y hy (by simpa using e)
section
variable {L : List Cl} {key : List UInt8} (hR : Rises L)
include hR
theorem repl_rises0 : Rises (repl L key []) := by
  obtain ⟨h1, h2⟩ := parts hR key
  unfold repl
  rw [List.append_nil]
  exact rises_append (rises_take hR _) (rises_drop hR _) (fun x hx y hy => less_trans _ _ _ (h1 x hx) (h2 y hy))
theorem repl_rises1 {x : Cl} (hx : x.1 = key) : Rises (repl L key [x]) := by
  obtain ⟨h1, h2⟩ := parts hR key
  unfold repl
  rw [List.append_assoc]
  refine rises_append (rises_take hR _) ⟨fun y hy => by rw [hx]; exact h2 y hy, rises_drop hR _⟩ (fun z hz y hy => ?_)
  rcases List.mem_cons.1 hy with rfl | hy
  · rw [hx]; exact h1 z hz
  · exact less_trans _ _ _ (h1 z hz) (h2 y hy)
theorem repl_hs0 : hs (repl L key []) key = false := by
  obtain ⟨h1, h2⟩ := parts hR key
  unfold repl
  rw [List.append_nil]
  refine hs_no (fun y hy => ?_)
  rcases List.mem_append.1 hy with hy | hy
  · exact ne_of_less (h1 y hy)
  · exact (ne_of_less (h2 y hy)).symm
theorem repl_twice {x : Cl} (hx : x.1 = key) : repl (repl L key [x]) key [] = repl L key [] := by
  obtain ⟨h1, h2⟩ := parts hR key
  have e : repl L key [x] = L.take (ix L key) ++ (x :: L.drop (ix L key + if hs L key then 1 else 0)) := by unfold repl; simp
  have hi : ix (repl L key [x]) key = (L.take (ix L key)).length := by
    rw [e]
    refine ix_parts h1 (fun y hy => ?_)
    rcases List.mem_cons.1 hy with rfl | hy
    · rw [hx, less_self]
    · exact less_asymm (h2 y hy)
  have hh : hs (repl L key [x]) key = true := by
    unfold hs
    rw [List.any_eq_true]
    exact ⟨x, by rw [e]; simp, by rw [hx]; simp⟩
  show (repl L key [x]).take (ix (repl L key [x]) key) ++ [] ++ (repl L key [x]).drop (ix (repl L key [x]) key + if hs (repl L key [x]) key then 1 else 0) = _
  rw [hi, hh, if_pos rfl, e]
  unfold repl
  generalize L.take (ix L key) = a
  generalize L.drop (ix L key + if hs L key then 1 else 0) = c
  rw [List.take_left, show a.length + 1 = a.length + 1 from rfl, ← List.drop_drop, List.drop_left]
  rfl
end
theorem repl_len (L : List Cl) (key : List UInt8) (x : Cl) : (repl L key [x]).length = (repl L key []).length + 1 := by
  unfold repl; simp; omega
theorem repl_le (L : List Cl) (key : List UInt8) (M : List Cl) : (repl L key M).length ≤ L.length + M.length := by
  unfold repl
  have := ix_le L key
  simp
  omega
theorem repl_small {L M : List Cl} {key : List UInt8} (h : Small L) (hM : Small M) : Small (repl L key M) := fun x hx => by
  unfold repl at hx
  rcases List.mem_append.1 hx with hx | hx
  · rcases List.mem_append.1 hx with hx | hx
    · exact h x (List.mem_of_mem_take hx)
    · exact hM x hx
  · exact h x (List.mem_of_mem_drop hx)
end Go.Proofs.Ytmamhinpkioogaa
