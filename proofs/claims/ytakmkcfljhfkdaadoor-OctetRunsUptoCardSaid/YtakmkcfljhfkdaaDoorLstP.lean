/-
  Slices of texts and of numbers that read as lists; lists of texts as bytes.
-/
import Derived.Test.YtakmkcfljhfkdaaDoorOrdP
import Derived.Test.YtakmkcfljhfkdaaDoorGive
import Derived.SliceStrings
namespace Go.Proofs.YtakmkcfljhfkdaaDoor
open Go.RowKit

/-- The slice at A reads, from its beginning on, as the values vs. -/
def RdV (w : World) (A : Option Addr) (vs : List Value) : Prop :=
  vs ≠ [] → ∃ b off, A = some ⟨b, off, none⟩ ∧ ∀ j u, vs[j]? = some u → w.cell? ⟨b, off + j, none⟩ = some u
theorem RdV.keep {w w' : World} {A : Option Addr} {vs : List Value} (h : RdV w A vs) (hx : Keeps w w') : RdV w' A vs := fun hn => by
  obtain ⟨b, off, hA, hc⟩ := h hn
  exact ⟨b, off, hA, fun j u hu => hx.cell (hc j u hu)⟩
theorem RdV.ext {w w' : World} {A : Option Addr} {vs : List Value} (h : RdV w A vs) (hx : Ext w w') : RdV w' A vs := h.keep hx.keeps
theorem RdV.at {w : World} {A : Option Addr} {vs : List Value} (h : RdV w A vs) {k : Nat} {u : Value} (hk : vs[k]? = some u) : ∃ b off, A = some ⟨b, off, none⟩ ∧ w.cell? ⟨b, off + k, none⟩ = some u := by
  obtain ⟨b, off, hA, hc⟩ := h (by intro e; subst e; simp at hk)
  exact ⟨b, off, hA, hc k u hk⟩
/-- Texts as values. -/
def tvs (ls : List (List UInt8)) : List Value := ls.map fun l => .string ⟨l.toArray⟩
theorem tvs_get (ls : List (List UInt8)) (k : Nat) (l : List UInt8) (h : ls[k]? = some l) : (tvs ls)[k]? = some (.string ⟨l.toArray⟩) := by simp [tvs, h]
/-- Numbers as values. -/
def nvs (ns : List Int) : List Value := ns.map (.int .i64)
theorem nvs_get (ns : List Int) (k : Nat) (n : Int) (h : ns[k]? = some n) : (nvs ns)[k]? = some (.int .i64 n) := by simp [nvs, h]

/-- Texts as bytes, one behind the other. -/
def texts : List (List UInt8) → List UInt8
  | [] => []
  | l :: r => text l ++ texts r
theorem texts_append (a b : List (List UInt8)) : texts (a ++ b) = texts a ++ texts b := by
  induction a with
  | nil => rfl
  | cons l r ih => simp [texts, ih]
theorem texts_snoc (a : List (List UInt8)) (l : List UInt8) : texts (a ++ [l]) = texts a ++ text l := by rw [texts_append]; simp [texts]
/-- How much texts hold. -/
def total : List (List UInt8) → Nat
  | [] => 0
  | l :: r => l.length + 1 + total r
theorem text_length (l : List UInt8) : (text l).length ≤ 2 * (l.length + 1) := by have := (esc_length l).2; unfold text; simp; omega
theorem total_append (a b : List (List UInt8)) : total (a ++ b) = total a + total b := by
  induction a with
  | nil => simp [total]
  | cons l r ih => simp only [List.cons_append, total, ih]; omega
theorem texts_length (a : List (List UInt8)) : (texts a).length ≤ 2 * total a := by
  induction a with
  | nil => simp [texts, total]
  | cons l r ih =>
    have := text_length l
    simp only [texts, total, List.length_append]
    omega
theorem total_at {ls : List (List UInt8)} {k : Nat} {l : List UInt8} (h : ls[k]? = some l) : total (ls.take k) + (l.length + 1) ≤ total ls ∧ ls.take (k + 1) = ls.take k ++ [l] := by
  have e : ls.take (k + 1) = ls.take k ++ [l] := by rw [List.take_add_one, h]; rfl
  have h2 := total_append (ls.take (k + 1)) (ls.drop (k + 1))
  rw [List.take_append_drop, e, total_append] at h2
  simp only [total] at h2
  exact ⟨by omega, e⟩
/-- Lists of texts stand, as bytes, as the lists do. -/
theorem less_texts (a b : List (List UInt8)) (i : Nat) (hi : a.take i = b.take i) :
    (i = a.length → i < b.length → Op.bytesLess (texts a) (texts b) = true) ∧ (i = b.length → Op.bytesLess (texts a) (texts b) = false) ∧
    (∀ s t, a[i]? = some s → b[i]? = some t → s ≠ t → Op.bytesLess (texts a) (texts b) = Op.bytesLess s t) := by
  have ea : texts a = texts (a.take i) ++ texts (a.drop i) := by rw [← texts_append, List.take_append_drop]
  have eb : texts b = texts (a.take i) ++ texts (b.drop i) := by rw [hi, ← texts_append, List.take_append_drop]
  rw [ea, eb, less_same]
  refine ⟨fun h1 h2 => ?_, fun h1 => ?_, fun s t hs ht hne => ?_⟩
  · rw [List.drop_of_length_le (by omega)]
    obtain ⟨t, ht⟩ : ∃ t, b[i]? = some t := ⟨_, List.getElem?_eq_getElem h2⟩
    obtain ⟨hlt, rfl⟩ := List.getElem?_eq_some_iff.1 ht
    rw [List.drop_eq_getElem_cons hlt]
    simp only [texts, text]
    cases he : esc b[i] ++ [0, 1] ++ texts (b.drop (i + 1)) with
    | nil => simp at he
    | cons c r => rfl
  · rw [List.drop_of_length_le (show b.length ≤ i by omega)]
    simp only [texts]
    cases texts (a.drop i) <;> rfl
  · obtain ⟨h1, rfl⟩ := List.getElem?_eq_some_iff.1 hs
    obtain ⟨h2, rfl⟩ := List.getElem?_eq_some_iff.1 ht
    rw [List.drop_eq_getElem_cons h1, List.drop_eq_getElem_cons h2]
    simp only [texts]
    exact less_text _ _ _ _ hne
end Go.Proofs.YtakmkcfljhfkdaaDoor
