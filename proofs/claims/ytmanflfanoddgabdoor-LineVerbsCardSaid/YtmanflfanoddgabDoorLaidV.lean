/-
  The seat's package-level tables, as the rows list them, the verbs among them; a world that holds them.
-/
import Derived.Test.YtmanflfanoddgabDoorLaw
import Derived.Test.YtmanflfanoddgabDoorLinV
import Derived.Test.YtmanflfanoddgabDoorTabS
import Derived.Lib.LaidU8T
import Derived.PinnedBridge
import Derived.Lay
namespace Go.Proofs.YtmanflfanoddgabDoor
open Go.RowKit

theorem types197 {P : Program} {ρ : Go.Shelf.Ren} (L : Lays.n197 P ρ) (h1 : P.underlying (ρ.t 119) = some (TypeDesc.array 256 (ρ.t 5))) (h2 : P.underlying (ρ.t 139) = some (TypeDesc.array 16 (ρ.t 138))) : U8Types P ρ := { L with t119 := h1, t139 := h2 }
def verbRows : List (List Lit) := vtab.map fun x => [.int .u8 x.1, .string x.2.1, .int .i64 x.2.2]
theorem arrL_rows (j : Nat) (v : Value) (h : arrL[j]? = some v) : ∃ r l, verbRows[j / 3]? = some r ∧ r[j % 3]? = some l ∧ v = litV l := by
  have hall : ∀ j : Nat, j < 33 → ∃ r l, verbRows[j / 3]? = some r ∧ r[j % 3]? = some l ∧ arrL[j]? = some (litV l) := by
    intro j hj
    match j, hj with
    | 0, _ => exact ⟨_, _, rfl, rfl, rfl⟩
    | 1, _ => exact ⟨_, _, rfl, rfl, rfl⟩
    | 2, _ => exact ⟨_, _, rfl, rfl, rfl⟩
    | 3, _ => exact ⟨_, _, rfl, rfl, rfl⟩
    | 4, _ => exact ⟨_, _, rfl, rfl, rfl⟩
    | 5, _ => exact ⟨_, _, rfl, rfl, rfl⟩
    | 6, _ => exact ⟨_, _, rfl, rfl, rfl⟩
    | 7, _ => exact ⟨_, _, rfl, rfl, rfl⟩
    | 8, _ => exact ⟨_, _, rfl, rfl, rfl⟩
    | 9, _ => exact ⟨_, _, rfl, rfl, rfl⟩
    | 10, _ => exact ⟨_, _, rfl, rfl, rfl⟩
    | 11, _ => exact ⟨_, _, rfl, rfl, rfl⟩
    | 12, _ => exact ⟨_, _, rfl, rfl, rfl⟩
    | 13, _ => exact ⟨_, _, rfl, rfl, rfl⟩
    | 14, _ => exact ⟨_, _, rfl, rfl, rfl⟩
    | 15, _ => exact ⟨_, _, rfl, rfl, rfl⟩
    | 16, _ => exact ⟨_, _, rfl, rfl, rfl⟩
    | 17, _ => exact ⟨_, _, rfl, rfl, rfl⟩
    | 18, _ => exact ⟨_, _, rfl, rfl, rfl⟩
    | 19, _ => exact ⟨_, _, rfl, rfl, rfl⟩
    | 20, _ => exact ⟨_, _, rfl, rfl, rfl⟩
    | 21, _ => exact ⟨_, _, rfl, rfl, rfl⟩
    | 22, _ => exact ⟨_, _, rfl, rfl, rfl⟩
    | 23, _ => exact ⟨_, _, rfl, rfl, rfl⟩
    | 24, _ => exact ⟨_, _, rfl, rfl, rfl⟩
    | 25, _ => exact ⟨_, _, rfl, rfl, rfl⟩
    | 26, _ => exact ⟨_, _, rfl, rfl, rfl⟩
    | 27, _ => exact ⟨_, _, rfl, rfl, rfl⟩
    | 28, _ => exact ⟨_, _, rfl, rfl, rfl⟩
    | 29, _ => exact ⟨_, _, rfl, rfl, rfl⟩
    | 30, _ => exact ⟨_, _, rfl, rfl, rfl⟩
    | 31, _ => exact ⟨_, _, rfl, rfl, rfl⟩
    | 32, _ => exact ⟨_, _, rfl, rfl, rfl⟩
    | j + 33, hj => omega
  have hj : j < 33 := by
    have := (List.getElem?_eq_some_iff.1 h).1
    exact this
  obtain ⟨r, l, h1, h2, h3⟩ := hall j hj
  exact ⟨r, l, h1, h2, Option.some.inj (h.symm.trans h3)⟩
theorem tabs_of_laidV {W : World} (h : laidMetH Tryd.prog [("unicode/utf8.acceptRanges", Rows.laid_unicode_utf8_acceptRanges), ("muniment/line.verbs", Rows.laid_muniment_line_verbs), ("unicode/utf8.first", Rows.laid_unicode_utf8_first)] W) : Tabs W ∧ TabV W := by
  rw [MakeChecks.laidMetH_plain _ _ _ (by kernel_rfl)] at h
  have h3 := Lib.laidMet.reads h (.tail _ (.tail _ (.head _)))
  have h4 := Lib.laidMet.reads h (.head _)
  have h5 := Lib.laidMet.reads h (.tail _ (.head _))
  rw [show Rows.laid_unicode_utf8_first = Lib.firstData from Pinned.utf8First_eq] at h3
  rw [show (Rows.laid_unicode_utf8_acceptRanges : DataW Unit) = Lib.acceptData by kernel_rfl] at h4
  rw [show (Rows.laid_muniment_line_verbs : DataW Unit) = .agg (verbRows.map fun r => .agg (r.map .lit)) by kernel_rfl] at h5
  refine ⟨utf8Tabs_of_readsT (types197 Tryd.lays197 (by kernel_rfl) (by kernel_rfl)) ⟨by kernel_rfl, by kernel_rfl, by kernel_rfl, by kernel_rfl, by kernel_rfl, by kernel_rfl, by kernel_rfl⟩ h3 h4, ?_⟩
  have hc := rows_of_reads (m := 3) h5 (show Tryd.prog.globalNamed "muniment/line.verbs" = some 0 by kernel_rfl) (by kernel_rfl) Tryd.underlying84 Tryd.underlying54 rfl (by kernel_rfl) rfl (fun i f hf => by
    match i, hf with
    | 0, hf => simp at hf; subst hf; exact ⟨.inl ⟨_, Tryd.underlying5⟩, rfl, by kernel_rfl⟩
    | 1, hf => simp at hf; subst hf; exact ⟨.inr Tryd.underlying9, rfl, by kernel_rfl⟩
    | 2, hf => simp at hf; subst hf; exact ⟨.inl ⟨_, Tryd.underlying3⟩, rfl, by kernel_rfl⟩
    | i + 3, hf => simp at hf)
  intro j v hv
  obtain ⟨r, l, h1, h2, rfl⟩ := arrL_rows j v hv
  have h := hc (j / 3) r h1 (j % 3) l h2 (Nat.mod_lt _ (by decide))
  rwa [Nat.div_add_mod' j 3] at h
/-- A world for the witness: the tables hold what the text lays. -/
noncomputable def laidWorldV (os : Os) : World := World.laidAll Tryd.prog os [("unicode/utf8.acceptRanges", Rows.laid_unicode_utf8_acceptRanges), ("muniment/line.verbs", Rows.laid_muniment_line_verbs), ("unicode/utf8.first", Rows.laid_unicode_utf8_first)]
theorem laidWorldV_os (os : Os) : (laidWorldV os).os = os := World.laidAll_os _ _ _
theorem laidWorldV_met (os : Os) (args : Array Value) : laidMet Tryd.prog [("unicode/utf8.acceptRanges", Rows.laid_unicode_utf8_acceptRanges), ("muniment/line.verbs", Rows.laid_muniment_line_verbs), ("unicode/utf8.first", Rows.laid_unicode_utf8_first)] ((laidWorldV os).forCall (fun _ _ => 0) ⟨#[], args, []⟩).memory :=
  laidMet_laidAll args (by kernel_rfl) (by kernel_rfl)
end Go.Proofs.YtmanflfanoddgabDoor
