/-
  What is above all that begin with some bytes, and that nothing is between: plain facts.
-/
import Derived.Test.YtakmkcfljhfkdaaDoorOrdP
import Derived.Test.YtakmkcfljhfkdaaDoorOctA
namespace Go.Proofs.YtakmkcfljhfkdaaDoor

theorem cut_cons (a : UInt8) (l : List UInt8) : ∀ n, n ≤ l.length → cutFrom (a :: l) (n + 1) = if cutFrom l n = 0 then (if a = 255 then 0 else 1) else cutFrom l n + 1
  | 0, _ => by
    simp only [cutFrom]
    by_cases h : a = 255 <;> simp [h]
  | n + 1, h => by
    have ih := cut_cons a l n (by omega)
    rw [cutFrom]
    simp only [List.getElem?_cons_succ]
    by_cases h1 : l[n]? = some 255
    · rw [if_pos h1, ih]
      simp only [cutFrom, if_pos h1]
    · rw [if_neg h1]
      simp only [cutFrom, if_neg h1]
      simp
theorem above_cons (a : UInt8) (l : List UInt8) : above (a :: l) = if above l = [] then (if a = 255 then [] else [a + 1]) else a :: above l := by
  have h := cut_cons a l l.length (Nat.le_refl _)
  have hnil : ∀ l : List UInt8, (above l = []) ↔ cutFrom l l.length = 0 := fun l => by
    unfold above
    by_cases h0 : cutFrom l l.length = 0
    · simp [h0]
    · simp [h0]
  by_cases h0 : cutFrom l l.length = 0
  · rw [if_pos ((hnil l).2 h0)]
    rw [if_pos h0] at h
    by_cases ha : a = 255
    · rw [if_pos ha] at h ⊢
      exact (hnil (a :: l)).2 h
    · rw [if_neg ha] at h ⊢
      have h2 := above_is (a :: l) 0 a h rfl
      rw [h2]; rfl
  · rw [if_neg (fun e => h0 ((hnil l).1 e))]
    rw [if_neg h0] at h
    obtain ⟨m, hm⟩ : ∃ m, cutFrom l l.length = m + 1 := ⟨cutFrom l l.length - 1, by omega⟩
    have hle := cutFrom_le l l.length
    have hml : m < l.length := by omega
    have e1 := above_is l m l[m] hm (List.getElem?_eq_getElem hml)
    rw [hm] at h
    have e2 := above_is (a :: l) (m + 1) l[m] h (by simp [hml])
    rw [e1, e2]
    rfl
theorem up_lt (a : UInt8) (h : a ≠ 255) : a < a + 1 := by
  have := (byte_up a h).1
  have h2 := (byte_up a h).2
  have h3 := b8_toNat (n := (a.toNat : Int) + 1) (by omega) h2
  rw [this] at h3
  rw [UInt8.lt_iff_toNat_lt]; omega
theorem lt_up (y a : UInt8) (h : a ≠ 255) (hy : y < a + 1) : y < a ∨ y = a := by
  have := (byte_up a h).1
  have h2 := (byte_up a h).2
  have h3 := b8_toNat (n := (a.toNat : Int) + 1) (by omega) h2
  rw [this] at h3
  rw [UInt8.lt_iff_toNat_lt] at hy ⊢
  by_cases e : y.toNat = a.toNat
  · exact .inr (UInt8.toNat_inj.1 e)
  · exact .inl (by omega)
/-- All that begin so stand below. -/
theorem above_gt : ∀ (l b : List UInt8), above l ≠ [] → Op.bytesLess (l ++ b) (above l) = true
  | [], b, h => absurd rfl h
  | a :: l, b, h => by
    rw [above_cons] at h ⊢
    by_cases h1 : above l = []
    · rw [if_pos h1] at h ⊢
      by_cases h2 : a = 255
      · rw [if_pos h2] at h; exact absurd rfl h
      · rw [if_neg h2]
        simp [Op.bytesLess, up_lt a h2]
    · rw [if_neg h1]
      simp [Op.bytesLess, above_gt l b h1]
/-- Where nothing is above, all else stands below. -/
theorem above_none : ∀ (l o : List UInt8), above l = [] → l.isPrefixOf o = true ∨ Op.bytesLess o l = true
  | [], _, _ => .inl rfl
  | a :: l, o, h => by
    rw [above_cons] at h
    by_cases h1 : above l = []
    · rw [if_pos h1] at h
      by_cases h2 : a = 255
      · subst h2
        cases o with
        | nil => exact .inr rfl
        | cons y r =>
          by_cases hy : y = 255
          · subst hy
            rcases above_none l r h1 with h3 | h3
            · exact .inl (by simp [List.isPrefixOf, h3])
            · exact .inr (by simp [Op.bytesLess, h3])
          · refine .inr ?_
            have hlt : y < 255 := by
              rw [UInt8.lt_iff_toNat_lt]
              have h4 := y.toNat_lt
              have h5 : y.toNat ≠ 255 := fun e => hy (UInt8.toNat_inj.1 e)
              show y.toNat < 255
              omega
            simp [Op.bytesLess, hlt]
      · rw [if_neg h2] at h; cases h
    · rw [if_neg h1] at h; cases h
/-- Nothing is between. -/
theorem above_least : ∀ (l o : List UInt8), above l ≠ [] → l.isPrefixOf o = false → Op.bytesLess o l = false → Op.bytesLess o (above l) = false
  | [], _, h, _, _ => absurd rfl h
  | a :: l, [], _, _, h => by simp [Op.bytesLess] at h
  | a :: l, y :: r, h, hp, hl => by
    have hya : ¬ y < a := by intro e; simp [Op.bytesLess, e] at hl
    have hr : y = a → Op.bytesLess r l = false := fun e => by subst e; simpa [Op.bytesLess] using hl
    have hpr : y = a → l.isPrefixOf r = false := fun e => by subst e; simpa [List.isPrefixOf] using hp
    rw [above_cons] at h ⊢
    by_cases h1 : above l = []
    · rw [if_pos h1] at h ⊢
      by_cases h2 : a = 255
      · rw [if_pos h2] at h; exact absurd rfl h
      · rw [if_neg h2]
        have h3 : ¬ y < a + 1 := by
          intro e
          rcases lt_up y a h2 e with h4 | h4
          · exact hya h4
          · rcases above_none l r h1 with h5 | h5
            · rw [hpr h4] at h5; cases h5
            · rw [hr h4] at h5; cases h5
        simp [Op.bytesLess, h3]
    · rw [if_neg h1]
      by_cases h2 : y = a
      · subst h2
        simp [Op.bytesLess, above_least l r h1 (hpr rfl) (hr rfl)]
      · have e : (y == a) = false := beq_eq_false_iff_ne.2 h2
        simp [Op.bytesLess, hya, e]
theorem prefix_take (l o : List UInt8) : l.isPrefixOf o = (o.take l.length == l) := by
  rw [Bool.eq_iff_iff, List.isPrefixOf_iff_prefix, beq_iff_eq, List.prefix_iff_eq_take]
  exact eq_comm
theorem prefix_short (l o : List UInt8) (h : o.length < l.length) : l.isPrefixOf o = false := by
  rw [Bool.eq_false_iff]
  intro e
  have := (List.isPrefixOf_iff_prefix.1 e).length_le
  omega
end Go.Proofs.YtakmkcfljhfkdaaDoor
