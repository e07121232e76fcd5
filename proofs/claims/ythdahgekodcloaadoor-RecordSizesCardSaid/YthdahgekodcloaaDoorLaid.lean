/-
  The seat's package-level table, as the rows list it.
-/
import Derived.Test.YthdahgekodcloaaDoorLaw
import Derived.Test.YthdahgekodcloaaDoorOctS
namespace Go.Proofs.YthdahgekodcloaaDoor
open Go.RowKit

theorem gTab : Tryd.prog.globalNamed "muniment/octet.halfBytes" = some 0 := by kernel_rfl
theorem gTabType : (Tryd.prog.globals[0]?).map (·.type) = some 67 := by kernel_rfl
theorem cellsTab : Tryd.prog.cellsOf 67 = 16 := by kernel_rfl
theorem cellsU32 : Tryd.prog.cellsOf 58 = 1 := by kernel_rfl
def tabInts : List Int := [0, 498536548, 997073096, 651767980, 1994146192, 1802195444, 1303535960, 1342533948, 3988292384, 4027552580, 3604390888, 3412177804, 2607071920, 2262029012, 2685067896, 3183342108]
theorem tab_of_laid {W : World} (h : laidMetH Tryd.prog [("muniment/octet.halfBytes", Rows.laid_muniment_octet_halfBytes)] W) : Tab W := by
  have ht : Lib.TabIs Tryd.prog W "muniment/octet.halfBytes" .u32 tabInts := Lib.tabIs_of_head (rest := []) gTab gTabType Tryd.underlying67 Tryd.underlying58 cellsU32 cellsTab h
  intro i hi
  have h1 := ht.cell gTab i (by simp [tabInts]; omega)
  rw [h1]
  have h2 : ∀ i : Nat, i < 16 → tabInts.getD i 0 = ((crcAt i : Nat) : Int) := by decide
  rw [h2 i hi]
/-- A world for the witness: the settled one, the table holding what its initialiser lays. -/
noncomputable def laidWorld (os : Os) : World :=
  { World.holding Tryd.prog os ⟨#[], #[], []⟩ with heap := (World.holding Tryd.prog os ⟨#[], #[], []⟩).heap.modify 0 fun
      | .cells _ t frozen => .cells #[.int .u32 0, .int .u32 498536548, .int .u32 997073096, .int .u32 651767980, .int .u32 1994146192, .int .u32 1802195444, .int .u32 1303535960, .int .u32 1342533948, .int .u32 3988292384, .int .u32 4027552580, .int .u32 3604390888, .int .u32 3412177804, .int .u32 2607071920, .int .u32 2262029012, .int .u32 2685067896, .int .u32 3183342108] t frozen
      | o => o }
end Go.Proofs.YthdahgekodcloaaDoor
