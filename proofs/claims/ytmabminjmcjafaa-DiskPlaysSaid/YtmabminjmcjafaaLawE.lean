/-
  Arguments that are slices of bools, at a plain seat.
-/
import Derived.Test.YtmabminjmcjafaaLawM
import Derived.Test.YtmabminjmcjafaaLaidM
import Derived.Test.YtmabminjmcjafaaDskE
import Derived.Deep.Grids
import Derived.OpenShut
namespace Go.Proofs.Ytmabminjmcjafaa
open Go.ChangeShapes Go.WideShapes Go.ChangeAt Go.RowKit

set_option maxRecDepth 100000 in
theorem open_choices {H : Type} {enc : TypeId × Value → H} {W : World} {base : Nat} {v : Value} {d : DataW H} {ps : List MemPlace} (hval : Value.okWide Try.prog W .any base 33 v)
    (h : DataW.Trod enc Try.prog W 0 (fun _ => true) true 33 v d ps) : ∃ A c l, v = .slice A l.length c ∧ RdB W A l := by
  obtain ⟨a0, len, cap, rfl⟩ := okWide_slice Try.underlying33 hval
  obtain ⟨n, hn⟩ := h
  rcases Deep.open_bools Try.underlying33 Try.underlying4 (by kernel_rfl) hn with ⟨hc, hx⟩ | ⟨a, len', cap', B, hc, _, hlc, _, hx, hcell⟩
  · simp [Value.cells] at hc
    obtain ⟨rfl, rfl, rfl⟩ := hc
    exact ⟨none, 0, [], rfl, fun h => absurd rfl h⟩
  · simp [Value.cells] at hc
    obtain ⟨rfl, rfl, rfl⟩ := hc
    have hlen : ((List.range len).map B).length = len := by simp
    refine ⟨some a, cap, (List.range len).map B, by rw [hlen], fun hn0 => ?_⟩
    have hp : 0 < len := by
      rcases Nat.eq_zero_or_pos len with h | h
      · exfalso; apply hn0; rw [h]; rfl
      · exact h
    obtain ⟨b, off, spot⟩ := a
    have hspot : spot = none := by simpa [Addr.add] using World.cell?_spot (hcell 0 (by omega))
    subst hspot
    refine ⟨b, off, rfl, fun j u hu => ?_⟩
    have hj := (List.getElem?_eq_some_iff.1 hu).1
    rw [hlen] at hj
    rw [← Go.WideShapes.add_plain, hcell j (by omega)]
    rw [List.getElem?_map, List.getElem?_range hj] at hu
    have hu2 : B j = u := by simpa using hu
    rw [hu2]
theorem diskOrder_walk_int (n s : Int) (hn : 0 ≤ n ∧ n ≤ 255) (hs : 0 ≤ s ∧ s ≤ 255) (W : World) (K : Int → Int → Prop) (h : ∀ (a b : Nat), a < 256 → b < 256 → K (a : Int) (b : Int)) : K n s := by
  have h1 := h n.toNat s.toNat (by omega) (by omega)
  rw [Int.toNat_of_nonneg hn.1, Int.toNat_of_nonneg hs.1] at h1
  exact h1
end Go.Proofs.Ytmabminjmcjafaa
