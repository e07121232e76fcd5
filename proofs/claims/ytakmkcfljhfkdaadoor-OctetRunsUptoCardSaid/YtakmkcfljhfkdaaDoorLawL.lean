/-
  Lists of texts and of numbers among a law's arguments.
-/
import Derived.Test.YtakmkcfljhfkdaaDoorLaw
import Derived.Test.YtakmkcfljhfkdaaDoorLstP
import Derived.SliceStrings
namespace Go.Proofs.YtakmkcfljhfkdaaDoor
open Go.ChangeShapes Go.WideShapes Go.ChangeAt Go.RowKit

/-- An argument that is a slice of texts. -/
theorem open_texts {H : Type} {enc : TypeId × Value → H} {W : World} {base : Nat} {v : Value} {d : DataW H} {ps : List MemPlace} (hval : Value.okWide Tryd.prog W .any base 53 v)
    (h : DataW.Trod enc Tryd.prog W 0 (fun _ => true) true 53 v d ps) :
    ∃ A c l, v = .slice A l.length c ∧ RdV W A (tvs l) ∧ ((d = .nil ∧ l = []) ∨ ∃ (ss : List ByteArray) (spare : List (DataW H)), d = .slice (strs ss) spare ∧ l = ss.map (·.data.toList)) := by
  obtain ⟨a0, len, cap, rfl⟩ := okWide_slice Tryd.underlying53 hval
  obtain ⟨n, hn⟩ := h
  rcases open_strings Tryd.underlying53 Tryd.underlying9 (by kernel_rfl) hn with ⟨hc, hx⟩ | ⟨a, len', cap', ss, hc, _, hlc, _, hz, hx, hcell, hwf⟩
  · simp [Value.cells] at hc
    obtain ⟨rfl, rfl, rfl⟩ := hc
    simp only [Prod.mk.injEq] at hx
    exact ⟨none, 0, [], rfl, fun h => absurd rfl h, .inl ⟨hx.1, rfl⟩⟩
  · simp [Value.cells] at hc
    obtain ⟨rfl, rfl, rfl⟩ := hc
    simp only [Prod.mk.injEq] at hx
    simp only [if_true] at hz
    have hlen : ((ss.take len).map (·.data.toList)).length = len := by simp; omega
    refine ⟨some a, cap, (ss.take len).map (·.data.toList), by rw [hlen], fun hn0 => ?_, .inr ⟨ss.take len, strs (ss.drop len), hx.1, rfl⟩⟩
    have hp : 0 < ss.length := by
      have : len ≠ 0 := by
        intro e
        apply hn0
        have : ((ss.take len).map (·.data.toList)) = [] := List.length_eq_zero_iff.1 (by rw [hlen, e])
        rw [this]; rfl
      omega
    obtain ⟨b, off, spot⟩ := a
    have hspot : spot = none := by simpa [Addr.add] using World.cell?_spot (hcell 0 hp)
    subst hspot
    refine ⟨b, off, rfl, fun j u hu => ?_⟩
    have hj : j < len := by
      rcases Nat.lt_or_ge j len with h' | h'
      · exact h'
      · rw [List.getElem?_eq_none (by simp [tvs]; omega)] at hu; cases hu
    rw [← Go.WideShapes.add_plain, hcell j (by omega)]
    simp only [tvs, List.getElem?_map, List.map_map, List.getElem?_take_of_lt hj] at hu
    rw [List.getElem?_eq_getElem (by omega)] at hu
    have hu' : (Value.string ss[j]) = u := by simpa using hu
    rw [← hu', List.getD_eq_getElem?_getD, List.getElem?_eq_getElem (by omega)]
    rfl
theorem total_strs {H : Type} (ss : List ByteArray) : Rows.uptoBulkAll (strs ss : List (DataW H)) = total (ss.map (·.data.toList)) := by
  induction ss with
  | nil => rfl
  | cons s r ih =>
    show Rows.uptoBulk (.lit (.string s.data.toList) : DataW H) + Rows.uptoBulkAll (strs r : List (DataW H)) = _
    rw [ih]
    simp only [Rows.uptoBulk, total, List.map_cons]
theorem bulk_texts {H : Type} {d : DataW H} {l : List (List UInt8)} (h : (d = .nil ∧ l = []) ∨ ∃ (ss : List ByteArray) (spare : List (DataW H)), d = .slice (strs ss) spare ∧ l = ss.map (·.data.toList)) : total l + 1 ≤ Rows.uptoBulk d := by
  rcases h with ⟨rfl, rfl⟩ | ⟨ss, spare, rfl, rfl⟩
  · simp [Rows.uptoBulk, total]
  · have := total_strs (H := H) ss
    simp only [Rows.uptoBulk]
    omega
theorem total_ge (l : List (List UInt8)) : l.length ≤ total l := by
  induction l with
  | nil => simp [total]
  | cons x r ih => simp only [total, List.length_cons]; omega

/-- An argument that is a slice of signed numbers. -/
theorem open_nums {H : Type} {enc : TypeId × Value → H} {W : World} {base : Nat} {v : Value} {d : DataW H} {ps : List MemPlace} (hval : Value.okWide Tryd.prog W .any base 54 v)
    (h : DataW.Trod enc Tryd.prog W 0 (fun _ => true) true 54 v d ps) :
    ∃ A c l, v = .slice A l.length c ∧ RdV W A (nvs l) ∧ (∀ n ∈ l, -9223372036854775808 ≤ n ∧ n ≤ 9223372036854775807) ∧ ((d = .nil ∧ l = []) ∨ ∃ elems spare, d = .slice elems spare ∧ elems.length = l.length) := by
  obtain ⟨a0, len, cap, rfl⟩ := okWide_slice Tryd.underlying54 hval
  obtain ⟨n, hn⟩ := h
  rcases open_ints Tryd.underlying54 Tryd.underlying2 (by kernel_rfl) hn with ⟨hc, hx⟩ | ⟨a, len', cap', zs, hc, _, hlc, _, hz, hx, hcell, hwf⟩
  · simp [Value.cells] at hc
    obtain ⟨rfl, rfl, rfl⟩ := hc
    simp only [Prod.mk.injEq] at hx
    exact ⟨none, 0, [], rfl, fun h => absurd rfl h, (fun _ h => absurd h List.not_mem_nil), .inl ⟨hx.1, rfl⟩⟩
  · simp [Value.cells] at hc
    obtain ⟨rfl, rfl, rfl⟩ := hc
    simp only [Prod.mk.injEq] at hx
    simp only [if_true] at hz
    have hlen : (zs.take len).length = len := by simp; omega
    refine ⟨some a, cap, zs.take len, by rw [hlen], fun hn0 => ?_, fun n hn => bounds_i64 (hwf n (List.mem_of_mem_take hn)), .inr ⟨_, _, hx.1, by simp [lits]⟩⟩
    have hp : 0 < zs.length := by
      have : len ≠ 0 := by
        intro e
        apply hn0
        have : zs.take len = [] := List.length_eq_zero_iff.1 (by rw [hlen, e])
        rw [this]; rfl
      omega
    obtain ⟨b, off, rfl, hcl⟩ := ints_at hcell hp
    refine ⟨b, off, rfl, fun j u hu => ?_⟩
    have hj : j < len := by
      rcases Nat.lt_or_ge j len with h' | h'
      · exact h'
      · rw [List.getElem?_eq_none (by simp [nvs]; omega)] at hu; cases hu
    rw [hcl j (by omega)]
    simp only [nvs, List.getElem?_map, List.getElem?_take_of_lt hj] at hu
    rw [List.getElem?_eq_getElem (by omega)] at hu
    have hu' : (Value.int .i64 zs[j]) = u := by simpa using hu
    rw [← hu', List.getD_eq_getElem?_getD, List.getElem?_eq_getElem (by omega)]
    rfl
theorem bulk_nums {H : Type} {d : DataW H} {l : List Int} (h : (d = .nil ∧ l = []) ∨ ∃ elems spare, d = .slice elems spare ∧ elems.length = l.length) : l.length + 1 ≤ Rows.uptoBulk d := by
  rcases h with ⟨rfl, rfl⟩ | ⟨elems, spare, rfl, hl⟩
  · simp [Rows.uptoBulk]
  · have h1 := bulk_length elems
    simp only [Rows.uptoBulk]
    omega
end Go.Proofs.YtakmkcfljhfkdaaDoor
