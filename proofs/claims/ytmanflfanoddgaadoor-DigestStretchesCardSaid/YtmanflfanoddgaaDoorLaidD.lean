/-
  The seat's two tables of words, as the rows list them; a world that holds them.
-/
import Derived.Test.YtmanflfanoddgaaDoorLaw
import Derived.Test.YtmanflfanoddgaaDoorShaM
import Derived.Lib.LaidU8
import Derived.Lay
import Derived.MakeChecks
namespace Go.Proofs.YtmanflfanoddgaaDoor
open Go.RowKit

theorem cells_of_reads {P : Program} {W : World} {name : String} {k : IntKind} {zs : List Int} {g t e n : Nat} (h : Lib.VarReads P W name (Lib.tabData k zs)) (hg : P.globalNamed name = some g) (hty : (P.globals[g]?).map (·.type) = some t)
    (ht : P.underlying t = some (.array n e)) (he : P.underlying e = some (.int k)) (hce : P.cellsOf e = 1) (hct : P.cellsOf t = n) : ∀ i z, zs[i]? = some z → W.cell? ⟨g, i, none⟩ = some (.int k z) := by
  obtain ⟨g', t', cs, fuel, p, h1, h2, hvar, hd⟩ := h
  obtain rfl := Option.some.inj (hg.symm.trans h1)
  obtain rfl := Option.some.inj (hty.symm.trans h2)
  have hcs := Lib.cells_of_tab ht he hce hct hd
  intro i z hz
  rw [World.var?_cell hg hvar i, ← Array.getElem?_toList, hcs]
  simp [hz]
def natInts (l : List Nat) : List Int := l.map fun (n : Nat) => (n : Int)
theorem natInts_get (l : List Nat) (i n : Nat) (h : l[i]? = some n) : (natInts l)[i]? = some (n : Int) := by simp [natInts, h]
theorem tab_of_laid {W : World} (h : laidMetH Tryd.prog [("muniment/digest.start", Rows.laid_muniment_digest_start), ("muniment/digest.roundWords", Rows.laid_muniment_digest_roundWords)] W) : Tab W := by
  rw [MakeChecks.laidMetH_plain _ _ _ (by kernel_rfl)] at h
  have h3 := Lib.laidMet.reads h (.head _)
  have h4 := Lib.laidMet.reads h (.tail _ (.head _))
  rw [show (Rows.laid_muniment_digest_start : DataW Unit) = Lib.tabData .u32 (natInts startW) by kernel_rfl] at h3
  rw [show (Rows.laid_muniment_digest_roundWords : DataW Unit) = Lib.tabData .u32 (natInts roundW) by kernel_rfl] at h4
  exact ⟨fun i n hn => cells_of_reads h4 (show Tryd.prog.globalNamed "muniment/digest.roundWords" = some 4 by kernel_rfl) (by kernel_rfl) Tryd.underlying29 Tryd.underlying27 (by kernel_rfl) (by kernel_rfl) i _ (natInts_get _ _ _ hn),
    fun i n hn => cells_of_reads h3 (show Tryd.prog.globalNamed "muniment/digest.start" = some 0 by kernel_rfl) (by kernel_rfl) Tryd.underlying28 Tryd.underlying27 (by kernel_rfl) (by kernel_rfl) i _ (natInts_get _ _ _ hn)⟩
/-- A world for the witness: the tables hold what the text lays. -/
noncomputable def laidWorld (os : Os) : World := World.laidAll Tryd.prog os [("muniment/digest.start", Rows.laid_muniment_digest_start), ("muniment/digest.roundWords", Rows.laid_muniment_digest_roundWords)]
theorem laidWorld_os (os : Os) : (laidWorld os).os = os := World.laidAll_os _ _ _
theorem laidWorld_met (os : Os) (args : Array Value) : laidMet Tryd.prog [("muniment/digest.start", Rows.laid_muniment_digest_start), ("muniment/digest.roundWords", Rows.laid_muniment_digest_roundWords)] ((laidWorld os).forCall (fun _ _ => 0) ⟨#[], args, []⟩).memory :=
  laidMet_laidAll args (by kernel_rfl) (by kernel_rfl)
end Go.Proofs.YtmanflfanoddgaaDoor
