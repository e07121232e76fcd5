/-
  Cells whose keys rise: plain.
-/
import Derived.Test.YtmamhinpkioogaaPgK
namespace Go.Proofs.Ytmamhinpkioogaa
open Go.RowKit

theorem less_self (l : List UInt8) : Op.bytesLess l l = false := by
  induction l with
  | nil => rfl
  | cons a l ih => simp [Op.bytesLess, ih]
theorem less_trans : ∀ (a b c : List UInt8), Op.bytesLess a b = true → Op.bytesLess b c = true → Op.bytesLess a c = true
  | _, [], _, h, _ => by cases ‹List UInt8› <;> simp [Op.bytesLess] at h
  | _, _ :: _, [], _, h => by simp [Op.bytesLess] at h
  | [], _ :: _, _ :: _, _, _ => rfl
  | x :: a, y :: b, z :: c, h, k => by
    simp only [Op.bytesLess, Bool.or_eq_true, Bool.and_eq_true, decide_eq_true_eq, beq_iff_eq, UInt8.lt_iff_toNat_lt, ← UInt8.toNat_inj] at h k ⊢
    rcases h with h | ⟨h1, h2⟩ <;> rcases k with k | ⟨k1, k2⟩
    · exact .inl (by omega)
    · exact .inl (by omega)
    · exact .inl (by omega)
    · exact .inr ⟨by omega, less_trans a b c h2 k2⟩
theorem less_total : ∀ (a b : List UInt8), Op.bytesLess a b = false → Op.bytesLess b a = false → a = b
  | [], [], _, _ => rfl
  | [], _ :: _, h, _ => by simp [Op.bytesLess] at h
  | _ :: _, [], _, h => by simp [Op.bytesLess] at h
  | x :: a, y :: b, h, k => by
    simp only [Op.bytesLess, Bool.or_eq_false_iff, Bool.and_eq_false_iff, decide_eq_false_iff_not, beq_eq_false_iff_ne, UInt8.lt_iff_toNat_lt, ne_eq, ← UInt8.toNat_inj] at h k
    obtain ⟨h1, h2⟩ := h
    obtain ⟨k1, k2⟩ := k
    have e : x.toNat = y.toNat := by omega
    have e2 : x = y := UInt8.toNat_inj.1 e
    subst e2
    rcases h2 with h2 | h2
    · exact absurd rfl h2
    · rcases k2 with k2 | k2
      · exact absurd rfl k2
      · rw [less_total a b h2 k2]
theorem less_asymm {a b : List UInt8} (h : Op.bytesLess a b = true) : Op.bytesLess b a = false := by
  cases hb : Op.bytesLess b a with
  | false => rfl
  | true => have := less_trans _ _ _ h hb; rw [less_self] at this; cases this
/-- The keys rise. -/
def Rises : List Cl → Prop
  | [] => True
  | x :: r => (∀ y ∈ r, Op.bytesLess x.1 y.1 = true) ∧ Rises r
/-- The place of the first cell whose key isn't below that one. -/
def ix (L : List Cl) (key : List UInt8) : Nat := (L.takeWhile fun x => Op.bytesLess x.1 key).length
def hs (L : List Cl) (key : List UInt8) : Bool := L.any fun x => x.1 == key
theorem ix_le (L : List Cl) (key : List UInt8) : ix L key ≤ L.length := by
  induction L with
  | nil => exact Nat.le_refl _
  | cons x L ih =>
    unfold ix at ih ⊢
    rw [List.takeWhile_cons]
    split
    · simp; exact ih
    · simp
theorem ix_cons_lt {x : Cl} {L : List Cl} {key : List UInt8} (h : Op.bytesLess x.1 key = true) : ix (x :: L) key = ix L key + 1 := by unfold ix; rw [List.takeWhile_cons, if_pos h]; rfl
theorem ix_cons_ge {x : Cl} {L : List Cl} {key : List UInt8} (h : Op.bytesLess x.1 key = false) : ix (x :: L) key = 0 := by unfold ix; rw [List.takeWhile_cons, if_neg (by rw [h]; decide)]; rfl
theorem ix_lt : ∀ {L : List Cl}, Rises L → ∀ {m : Nat} {x : Cl} (key : List UInt8), L[m]? = some x → (Op.bytesLess x.1 key = true ↔ m < ix L key)
  | [], _, m, x, key, h => by cases h
  | y :: L, hR, 0, x, key, h => by
    injection h with h
    subst h
    cases hb : Op.bytesLess y.1 key with
    | true => rw [ix_cons_lt hb]; simp
    | false => rw [ix_cons_ge hb]; simp
  | y :: L, hR, m + 1, x, key, h => by
    have h' : L[m]? = some x := h
    have ih := ix_lt hR.2 key h'
    cases hb : Op.bytesLess y.1 key with
    | true => rw [ix_cons_lt hb, ih]; omega
    | false =>
      rw [ix_cons_ge hb]
      have hyx := hR.1 x (List.mem_of_getElem? h')
      cases hx : Op.bytesLess x.1 key with
      | false => simp
      | true => have := less_trans _ _ _ hyx hx; rw [hb] at this; cases this
theorem hs_at : ∀ {L : List Cl}, Rises L → ∀ (key : List UInt8), hs L key = (match L[ix L key]? with | some x => x.1 == key | none => false)
  | [], _, key => rfl
  | y :: L, hR, key => by
    have ih := hs_at hR.2 key
    unfold hs at ih ⊢
    rw [List.any_cons]
    cases hb : Op.bytesLess y.1 key with
    | true =>
      rw [ix_cons_lt hb, List.getElem?_cons_succ, ← ih]
      have : (y.1 == key) = false := by
        rw [beq_eq_false_iff_ne]; intro e; rw [e, less_self] at hb; cases hb
      rw [this, Bool.false_or]
    | false =>
      rw [ix_cons_ge hb, List.getElem?_cons_zero]
      cases hk : y.1 == key with
      | true => simp [hk]
      | false =>
        rw [Bool.false_or]
        show _ = (y.1 == key)
        rw [hk, List.any_eq_false]
        intro z hz
        have h1 := hR.1 z hz
        intro e
        have e2 : z.1 = key := by simpa using e
        rw [e2, hb] at h1
        cases h1
/-- The cells with others where the one of a key is, or would be. -/
def repl (L : List Cl) (key : List UInt8) (M : List Cl) : List Cl := L.take (ix L key) ++ M ++ L.drop (ix L key + if hs L key then 1 else 0)
end Go.Proofs.Ytmamhinpkioogaa
