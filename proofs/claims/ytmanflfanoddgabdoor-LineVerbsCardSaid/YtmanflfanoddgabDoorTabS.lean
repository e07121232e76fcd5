/-
  A listed variable that is an array of structs whose fields are numbers and texts: what its cells hold. General: it speaks of no program text.
-/
import Derived.Test.YtmanflfanoddgabDoorProg
import Derived.Lib.LaidU8
namespace Go.Proofs.YtmanflfanoddgabDoor
open Go.Lib

def litV : Lit → Value
  | .int k n => .int k n
  | .string l => .string ⟨l.toArray⟩
  | _ => .bool false
section
variable {H : Type} {enc : TypeId × Value → H} {P : Program} {w : World} {base : Nat} {sp : Nat → Bool} {held : Bool}
/-- A struct that reads as these numbers and texts holds them, cell for cell. -/
theorem lits_of_struct {fuel : Nat} {t : TypeId} {fs : Array Field} {cs : List Value} {ls : List Lit} {p : List MemPlace} (ht : P.underlying t = some (.struct fs))
    (hf : ∀ (i : Nat) (f : Field), fs[i]? = some f → ((∃ k, P.underlying f.type = some (.int k)) ∨ P.underlying f.type = some .string) ∧ f.offset = i ∧ P.cellsOf f.type = 1) (hct : P.cellsOf t = fs.size)
    (h : DataW.trod enc P w base sp held fuel t cs = some (.agg (ls.map .lit), p)) : cs = ls.map litV := by
  obtain ⟨xs, n, rfl, hx, hl, hxl, hall⟩ := DataW.trod_struct ht h
  have hxs : xs.map (·.1) = ls.map fun z => (DataW.lit z : DataW H) := by
    have := congrArg Prod.fst hx
    simpa using this.symm
  have hzl : ls.length = fs.size := by
    have := congrArg List.length hxs
    simp at this
    omega
  apply List.ext_getElem?
  intro i
  by_cases hi : i < fs.size
  · obtain ⟨hu, ho, hc⟩ := hf i fs[i] (by simp [hi])
    have h1 := hall i fs[i] (by simp [hi])
    obtain ⟨b, hb⟩ : ∃ b, xs[i]? = some b := ⟨xs[i]'(by omega), List.getElem?_eq_getElem (by omega)⟩
    rw [hb, ho, hc] at h1
    have h3 : (ls.map fun z => (DataW.lit z : DataW H))[i]? = some b.1 := by rw [← hxs]; simp [hb]
    rw [List.getElem?_map] at h3 ⊢
    cases hz : ls[i]? with
    | none => rw [hz] at h3; simp at h3
    | some z =>
      rw [hz] at h3
      simp only [Option.map_some, Option.some.injEq] at h3 ⊢
      rcases hu with ⟨k, hu⟩ | hu
      · obtain ⟨m, hcz, rfl, _⟩ := DataW.trod_int hu h1
        have h2 : cs[i]? = some (.int k m) := by
          have := congrArg (·[0]?) hcz
          simpa [List.getElem?_take, List.getElem?_drop] using this
        simp only [DataW.lit.injEq] at h3
        subst h3
        exact h2
      · obtain ⟨s, hcz, rfl, _⟩ := DataW.trod_string hu h1
        have h2 : cs[i]? = some (.string s) := by
          have := congrArg (·[0]?) hcz
          simpa [List.getElem?_take, List.getElem?_drop] using this
        simp only [DataW.lit.injEq] at h3
        subst h3
        exact h2
  · rw [List.getElem?_eq_none (by omega), List.getElem?_eq_none (by simp; omega)]
end
/-- So each cell of the array. -/
theorem rows_of_reads {P : Program} {W : World} {name : String} {rows : List (List Lit)} {g t e n m : Nat} {fs : Array Field} (h : VarReads P W name (.agg (rows.map fun r => .agg (r.map .lit)))) (hg : P.globalNamed name = some g) (hty : (P.globals[g]?).map (·.type) = some t)
    (ht : P.underlying t = some (.array n e)) (he : P.underlying e = some (.struct fs)) (hm : fs.size = m) (hce : P.cellsOf e = m) (hn : rows.length = n)
    (hf : ∀ (i : Nat) (f : Field), fs[i]? = some f → ((∃ k, P.underlying f.type = some (.int k)) ∨ P.underlying f.type = some .string) ∧ f.offset = i ∧ P.cellsOf f.type = 1) :
    ∀ i r, rows[i]? = some r → ∀ j l, r[j]? = some l → j < m → W.cell? ⟨g, i * m + j, none⟩ = some (litV l) := by
  obtain ⟨g', t', cs, fuel, p, h1, h2, hvar, hd⟩ := h
  obtain rfl := Option.some.inj (hg.symm.trans h1)
  obtain rfl := Option.some.inj (hty.symm.trans h2)
  intro i r hr j l hj hjm
  have hi : i < n := by
    rcases Nat.lt_or_ge i n with h' | h'
    · exact h'
    · rw [List.getElem?_eq_none (by omega)] at hr; cases hr
  obtain ⟨fuel', d, q, hdi, hel⟩ := array_elem ht hd i hi
  rw [List.getElem?_map, hr] at hdi
  simp only [Option.map_some, Option.some.injEq] at hdi
  subst hdi
  have hcs := lits_of_struct he hf (by omega) hel
  rw [hce] at hcs
  have e0 := congrArg (·[j]?) hcs
  simp only [List.getElem?_take, List.getElem?_drop, if_pos hjm, List.getElem?_map, hj, Option.map_some] at e0
  rw [World.var?_cell hg hvar (i * m + j), ← Array.getElem?_toList]
  exact e0
end Go.Proofs.YtmanflfanoddgabDoor
