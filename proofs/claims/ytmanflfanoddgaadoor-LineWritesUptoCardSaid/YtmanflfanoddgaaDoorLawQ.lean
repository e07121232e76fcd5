/-
  A request among a law's arguments.
-/
import Derived.Test.YtmanflfanoddgaaDoorLaw
import Derived.Test.YtmanflfanoddgaaDoorTvs
import Derived.SliceStrings
import Derived.Lib.SmallJoins
namespace Go.Proofs.YtmanflfanoddgaaDoor
open Go.ChangeShapes Go.WideShapes Go.ChangeAt Go.RowKit

theorem bulk_strs {H : Type} (ss : List ByteArray) : (∀ x ∈ ss.map (·.data.toList), x.length ≤ Rows.uptoBulkAll (strs ss : List (DataW H))) ∧ ss.length ≤ Rows.uptoBulkAll (strs ss : List (DataW H)) := by
  induction ss with
  | nil => exact ⟨fun x h => (by cases h), Nat.zero_le _⟩
  | cons s r ih =>
    have e : Rows.uptoBulkAll (strs (s :: r) : List (DataW H)) = (s.data.toList.length + 1) + Rows.uptoBulkAll (strs r : List (DataW H)) := rfl
    rw [e]
    refine ⟨fun x hx => ?_, by have := ih.2; simp only [List.length_cons]; omega⟩
    rcases List.mem_cons.1 hx with rfl | hx
    · show s.data.toList.length ≤ _; omega
    · have := ih.1 x hx; omega
/-- A slice of texts within something: its cell. -/
theorem open_cellT {H : Type} {enc : TypeId × Value → H} {W : World} {v : Value} {y : DataW H × List MemPlace} {n : Nat}
    (hn : DataW.trod enc Tryd.prog W 0 (fun _ => true) true n 70 [v] = some y) :
    ∃ A c l, v = .slice A l.length c ∧ RdV W A (tvs l) ∧ (∀ x ∈ l, x.length ≤ Rows.uptoBulk y.1) ∧ l.length ≤ Rows.uptoBulk y.1 := by
  rcases open_strings Tryd.underlying70 Tryd.underlying9 (by kernel_rfl) hn with ⟨hc, hx⟩ | ⟨a, len', cap', ss, hc, _, hlc, _, hz, hx, hcell, hwf⟩
  · simp at hc
    subst hc
    subst hx
    exact ⟨none, 0, [], rfl, fun h => absurd rfl h, fun x h => (by cases h), Nat.zero_le _⟩
  · simp at hc
    subst hc
    subst hx
    simp only [if_true] at hz
    have hlen : ((ss.take len').map (·.data.toList)).length = len' := by simp; omega
    have hb := bulk_strs (H := H) (ss.take len')
    have hbu : Rows.uptoBulkAll (strs (ss.take len') : List (DataW H)) ≤ Rows.uptoBulk (.slice (strs (ss.take len')) (strs (ss.drop len')) : DataW H) := by
      simp only [Rows.uptoBulk]; omega
    refine ⟨some a, cap', (ss.take len').map (·.data.toList), by rw [hlen], fun hn0 => ?_, fun x hx => Nat.le_trans (hb.1 x hx) hbu, by rw [List.length_map]; exact Nat.le_trans hb.2 hbu⟩
    have hp : 0 < ss.length := by
      have : len' ≠ 0 := by
        intro e
        apply hn0
        have : ((ss.take len').map (·.data.toList)) = [] := List.length_eq_zero_iff.1 (by rw [hlen, e])
        rw [this]; rfl
      omega
    obtain ⟨b, off, spot⟩ := a
    have hspot : spot = none := by simpa [Addr.add] using World.cell?_spot (hcell 0 hp)
    subst hspot
    refine ⟨b, off, rfl, fun j u hu => ?_⟩
    have hj : j < len' := by
      rcases Nat.lt_or_ge j len' with h' | h'
      · exact h'
      · rw [List.getElem?_eq_none (by simp [tvs]; omega)] at hu; cases hu
    rw [← Go.WideShapes.add_plain, hcell j (by omega)]
    simp only [tvs, List.getElem?_map, List.map_map, List.getElem?_take_of_lt hj] at hu
    rw [List.getElem?_eq_getElem (by omega)] at hu
    have hu' : (Value.string ss[j]) = u := by simpa using hu
    rw [← hu', List.getD_eq_getElem?_getD, List.getElem?_eq_getElem (by omega)]
    rfl
set_option maxRecDepth 100000 in
/-- An argument that is a request. -/
theorem open_request {H : Type} {enc : TypeId × Value → H} {W : World} {base : Nat} {v : Value} {d : DataW H} {ps : List MemPlace} (hval : Value.okWide Tryd.prog W .any base 72 v)
    (h : DataW.Trod enc Tryd.prog W 0 (fun _ => true) true 72 v d ps) :
    ∃ n A c l, v = .agg #[.int .u8 n, .slice A l.length c] ∧ RdV W A (tvs l) ∧ (∀ x ∈ l, x.length ≤ Rows.uptoBulk d) ∧ l.length ≤ Rows.uptoBulk d := by
  obtain ⟨v0, v1, y0, y1, n, rfl, rfl, _, h0, h1⟩ := Joins.open_agg2 Tryd.underlying72 (by kernel_rfl) (by kernel_rfl) hval h
  obtain ⟨k, hk, _, _⟩ := DataW.trod_int Tryd.underlying5 h0
  simp at hk
  subst hk
  obtain ⟨A, c, l, rfl, hr, hb, hl⟩ := open_cellT h1
  have hle : Rows.uptoBulk y1.1 ≤ Rows.uptoBulk (.agg [y0.1, y1.1] : DataW H) := by
    simp only [Rows.uptoBulk, Rows.uptoBulkAll]; omega
  exact ⟨k, A, c, l, rfl, hr, fun x hx => Nat.le_trans (hb x hx) hle, Nat.le_trans hl hle⟩
end Go.Proofs.YtmanflfanoddgaaDoor
