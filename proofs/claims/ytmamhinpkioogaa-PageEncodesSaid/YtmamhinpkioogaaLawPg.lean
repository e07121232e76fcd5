/-
  An argument that is a page, at a plain seat.
-/
import Derived.Test.YtmamhinpkioogaaLawC
namespace Go.Proofs.Ytmamhinpkioogaa
open Go.ChangeShapes Go.WideShapes Go.ChangeAt Go.RowKit

section
variable {H : Type} {enc : TypeId × Value → H} {W : World}
/-- What a page reads as. -/
def PageD (d : DataW H) (L : List Cl) : Prop := ∃ d0 d1 d2, d = .agg [d0, d1, d2] ∧ CellsD d2 L
theorem page_small {d : DataW H} {L : List Cl} (h : PageD d L) (hw : ∀ n ∈ d.weights Try.prog 24, n ≤ reachBytes) : Small L := by
  obtain ⟨d0, d1, d2, rfl, hd⟩ := h
  refine cells_small hd (fun n hn => hw n ?_)
  simp only [DataW.weights, Try.underlying24]
  exact DataW.weights_mem_each (ts := [5, 3, 22]) (j := 2) rfl rfl n hn
/-- An argument that is a page. -/
theorem open_page {base : Nat} {v : Value} {d : DataW H} {ps : List MemPlace} (hval : Value.okWide Try.prog W .any base 24 v)
    (h : DataW.Trod enc Try.prog W 0 (fun _ => true) true 24 v d ps) : ∃ k m A c L, v = .agg #[.int .u8 k, .int .i64 m, .slice A L.length c] ∧ L.length ≤ c ∧ RdC W A L ∧ PageD d L := by
  obtain ⟨v0, v1, v2, y0, y1, y2, n, rfl, rfl, _, h0, h1, h2⟩ := Joins.open_agg3 Try.underlying24 (by kernel_rfl) (by kernel_rfl) hval h
  obtain ⟨k, hk, _, _⟩ := DataW.trod_int Try.underlying5 h0
  obtain ⟨m, hm, _, _⟩ := DataW.trod_int Try.underlying3 h1
  simp at hk hm
  subst hk hm
  obtain ⟨A, c, L, hc, g1, g2, g3⟩ := cells_open h2
  injection hc with hc
  subst hc
  exact ⟨k, m, A, c, L, rfl, g1, g2, _, _, _, rfl, g3⟩
/-- A page's kind is a byte. -/
theorem page_kind {base : Nat} {k m : Int} {z : Value} {d : DataW H} {ps : List MemPlace} (hval : Value.okWide Try.prog W .any base 24 (.agg #[.int .u8 k, .int .i64 m, z]))
    (h : DataW.Trod enc Try.prog W 0 (fun _ => true) true 24 (.agg #[.int .u8 k, .int .i64 m, z]) d ps) : 0 ≤ k := by
  obtain ⟨v0, v1, v2, y0, y1, y2, n, hv, rfl, _, h0, h1, h2⟩ := Joins.open_agg3 Try.underlying24 (by kernel_rfl) (by kernel_rfl) hval h
  obtain ⟨k', hk, _, hw⟩ := DataW.trod_int Try.underlying5 h0
  simp at hk hv
  obtain ⟨hv0, -, -⟩ := hv
  rw [← hv0] at hk
  injection hk with hk1 hk2
  subst hk2
  simp [Lit.wf, IntKind.min, IntKind.signed] at hw
  omega
end
end Go.Proofs.Ytmamhinpkioogaa
