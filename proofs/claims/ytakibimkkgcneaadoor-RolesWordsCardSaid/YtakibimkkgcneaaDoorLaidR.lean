/-
  The seat's table of words, as the rows list it; a world that holds it.
-/
import Derived.Test.YtakibimkkgcneaaDoorLawM
import Derived.Test.YtakibimkkgcneaaDoorRolD
import Derived.Test.YtakibimkkgcneaaDoorTabS
import Derived.MakeChecks
namespace Go.Proofs.YtakibimkkgcneaaDoor
open Go.RowKit

def rolRows : List (List Lit) := [[.int .u8 1, .string [117, 115, 101, 114]], [.int .u8 2, .string [99, 108, 101, 114, 107]], [.int .u8 3, .string [97, 100, 109, 105, 110]]]
theorem tab_of_laid {W : World} (h : laidMetH Tryd.prog [("muniment/roles.words", Rows.laid_muniment_roles_words)] W) : Tab W := by
  rw [MakeChecks.laidMetH_plain _ _ _ (by kernel_rfl)] at h
  have h3 := Lib.laidMet.reads h (.head _)
  rw [show (Rows.laid_muniment_roles_words : DataW Unit) = .agg (rolRows.map fun r => .agg (r.map .lit)) by kernel_rfl] at h3
  have hc := rows_of_reads (m := 2) h3 (show Tryd.prog.globalNamed "muniment/roles.words" = some 0 by kernel_rfl) (by kernel_rfl) Tryd.underlying31 Tryd.underlying30 rfl (by kernel_rfl) rfl (fun i f hf => by
    match i, hf with
    | 0, hf => simp at hf; subst hf; exact ⟨.inl ⟨_, Tryd.underlying5⟩, rfl, by kernel_rfl⟩
    | 1, hf => simp at hf; subst hf; exact ⟨.inr Tryd.underlying9, rfl, by kernel_rfl⟩
    | i + 2, hf => simp at hf)
  exact ⟨hc 0 _ rfl 0 _ rfl (by decide), hc 0 _ rfl 1 _ rfl (by decide), hc 1 _ rfl 0 _ rfl (by decide), hc 1 _ rfl 1 _ rfl (by decide), hc 2 _ rfl 0 _ rfl (by decide), hc 2 _ rfl 1 _ rfl (by decide)⟩
/-- A world for the witness: the table holds what the text lays. -/
noncomputable def laidWorld (os : Os) : World := World.laidAll Tryd.prog os [("muniment/roles.words", Rows.laid_muniment_roles_words)]
theorem laidWorld_os (os : Os) : (laidWorld os).os = os := World.laidAll_os _ _ _
theorem laidWorld_met (os : Os) (args : Array Value) : laidMet Tryd.prog [("muniment/roles.words", Rows.laid_muniment_roles_words)] ((laidWorld os).forCall (fun _ _ => 0) ⟨#[], args, []⟩).memory :=
  laidMet_laidAll args (by kernel_rfl) (by kernel_rfl)
end Go.Proofs.YtakibimkkgcneaaDoor
