/-
  Arguments that are slices of slices of bytes, at a plain seat.
-/
import Derived.Test.YtgpkblpnccokfaaLawE
import Derived.Test.YtgpkblpnccokfaaLawD
import Derived.Test.YtgpkblpnccokfaaDskL
import Derived.Deep.Matrix
namespace Go.Proofs.Ytgpkblpnccokfaa
open Go.ChangeShapes Go.WideShapes Go.ChangeAt Go.RowKit

set_option maxRecDepth 100000 in
theorem open_lists {H : Type} {enc : TypeId × Value → H} {W : World} {base : Nat} {v : Value} {d : DataW H} {ps : List MemPlace} (hval : Value.okWide Try.prog W .any base 51 v)
    (h : DataW.Trod enc Try.prog W 0 (fun _ => true) true 51 v d ps) : ∃ A c l, v = .slice A l.length c ∧ RdL W A l := by
  obtain ⟨a0, len, cap, rfl⟩ := okWide_slice Try.underlying51 hval
  obtain ⟨n, hn⟩ := h
  rcases Deep.open_int_rows Try.underlying51 Try.underlying32 Try.underlying5 (by kernel_rfl) (by kernel_rfl) hn with ⟨hc, hx⟩ | ⟨a, len', cap', A, L, C, Z, hc, _, hlc, _, hx, hcell⟩
  · simp [Value.cells] at hc
    obtain ⟨rfl, rfl, rfl⟩ := hc
    exact ⟨none, 0, [], rfl, fun h => absurd rfl h⟩
  · simp [Value.cells] at hc
    obtain ⟨rfl, rfl, rfl⟩ := hc
    have hlen : ((List.range len).map fun r => ((Z r).take (L r)).map b8).length = len := by simp
    refine ⟨some a, cap, (List.range len).map fun r => ((Z r).take (L r)).map b8, by rw [hlen], fun hn0 => ?_⟩
    have hp : 0 < len := by
      rcases Nat.eq_zero_or_pos len with h | h
      · exfalso; apply hn0; rw [h]; rfl
      · exact h
    obtain ⟨b, off, spot⟩ := a
    have hspot : spot = none := by simpa [Addr.add] using World.cell?_spot (hcell 0 (by omega)).1
    subst hspot
    refine ⟨b, off, rfl, fun j u hu => ?_⟩
    have hj := (List.getElem?_eq_some_iff.1 hu).1
    rw [hlen] at hj
    rw [List.getElem?_map, List.getElem?_range hj] at hu
    have hu2 : ((Z j).take (L j)).map b8 = u := by simpa using hu
    obtain ⟨h1, h2, h3, h4, h5, h6, h7⟩ := hcell j (by omega)
    have hul : u.length = L j := by rw [← hu2]; simp; omega
    refine ⟨A j, C j, ?_, fun hn1 => ?_⟩
    · rw [← Go.WideShapes.add_plain, h1, hul]
    · have hLp : 0 < L j := by
        rcases Nat.eq_zero_or_pos (L j) with h | h
        · exfalso; apply hn1; apply List.length_eq_zero_iff.1; rw [hul, h]
        · exact h
      cases hA : A j with
      | none => have := h6 hA; omega
      | some a' =>
        obtain ⟨-, h8⟩ := h7 a' hA
        obtain ⟨b', off', spot'⟩ := a'
        have hspot : spot' = none := by simpa [Addr.add] using World.cell?_spot (h8 0 (by omega))
        subst hspot
        refine ⟨b', off', rfl, fun i x hx => ?_⟩
        have hi := (List.getElem?_eq_some_iff.1 hx).1
        rw [hul] at hi
        rw [← Go.WideShapes.add_plain, h8 i (by omega)]
        rw [← hu2, List.getElem?_map, List.getElem?_take_of_lt hi, List.getElem?_eq_getElem (by omega)] at hx
        have hx2 : b8 (Z j)[i] = x := by simpa using hx
        have hw := bounds_u8 (h5 (Z j)[i] (List.getElem_mem _))
        rw [← hx2, b8_toNat hw.1 (by omega), List.getD_eq_getElem?_getD, List.getElem?_eq_getElem (by omega)]
        rfl
end Go.Proofs.Ytgpkblpnccokfaa
