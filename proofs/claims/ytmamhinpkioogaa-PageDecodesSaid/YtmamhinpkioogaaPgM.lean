/-
  Cells of a page: plain, and how they lie in memory.
-/
import Derived.Test.YtmamhinpkioogaaOwn
import Derived.Test.YtmamhinpkioogaaWds
import Derived.IntWalk
import Derived.Deep.Cut
import Derived.Deep.CutRange
import Derived.BigQuiet
import Derived.Deep.QuietTactic
import Derived.Great.BuildSlice
import Derived.Laws.OwnMore
import Derived.Maps.AppendAt
namespace Go.Proofs.Ytmamhinpkioogaa
open Go.RowKit

/-- A cell: its key, its value. -/
abbrev Cl := List UInt8 × List UInt8
/-- The slice at A reads, from its beginning on, as these cells. -/
def RdC (w : World) (A : Option Addr) (L : List Cl) : Prop :=
  L ≠ [] → ∃ b off, A = some ⟨b, off, none⟩ ∧ ∀ j x, L[j]? = some x → ∃ A1 c1 A2 c2, w.cell? ⟨b, off + j * 2, none⟩ = some (.slice A1 x.1.length c1) ∧ w.cell? ⟨b, off + j * 2 + 1, none⟩ = some (.slice A2 x.2.length c2) ∧ x.1.length ≤ c1 ∧ x.2.length ≤ c2 ∧ Rd w A1 x.1 ∧ Rd w A2 x.2
theorem RdC.keep {w w' : World} {A : Option Addr} {L : List Cl} (h : RdC w A L) (hx : Keeps w w') : RdC w' A L := fun hn => by
  obtain ⟨b, off, hA, hc⟩ := h hn
  refine ⟨b, off, hA, fun j x hj => ?_⟩
  obtain ⟨A1, c1, A2, c2, h1, h2, h3, h4, h5, h6⟩ := hc j x hj
  exact ⟨A1, c1, A2, c2, hx.cell h1, hx.cell h2, h3, h4, h5.keep hx, h6.keep hx⟩
theorem RdC.ext {w w' : World} {A : Option Addr} {L : List Cl} (h : RdC w A L) (hx : Ext w w') : RdC w' A L := h.keep hx.keeps
theorem RdC.nil (w : World) (A : Option Addr) : RdC w A [] := fun h => absurd rfl h
theorem RdC.at {w : World} {A : Option Addr} {L : List Cl} (h : RdC w A L) {j : Nat} {x : Cl} (hj : L[j]? = some x) : ∃ b off A1 c1 A2 c2, A = some ⟨b, off, none⟩ ∧ w.cell? ⟨b, off + j * 2, none⟩ = some (.slice A1 x.1.length c1) ∧ w.cell? ⟨b, off + j * 2 + 1, none⟩ = some (.slice A2 x.2.length c2) ∧ x.1.length ≤ c1 ∧ x.2.length ≤ c2 ∧ Rd w A1 x.1 ∧ Rd w A2 x.2 := by
  obtain ⟨b, off, hA, hc⟩ := h (by intro e; rw [e] at hj; cases hj)
  obtain ⟨A1, c1, A2, c2, hr⟩ := hc j x hj
  exact ⟨b, off, A1, c1, A2, c2, hA, hr⟩
theorem RdC.take {w : World} {A : Option Addr} {L : List Cl} (h : RdC w A L) (k : Nat) : RdC w A (L.take k) := fun hn => by
  obtain ⟨b, off, hA, hc⟩ := h (by intro e; rw [e] at hn; simp at hn)
  refine ⟨b, off, hA, fun j x hj => hc j x ?_⟩
  rw [List.getElem?_take] at hj
  split at hj
  · exact hj
  · cases hj
theorem RdC.drop {w : World} {b off : Nat} {L : List Cl} (h : RdC w (some ⟨b, off, none⟩) L) (k : Nat) : RdC w (some ⟨b, off + k * 2, none⟩) (L.drop k) := fun hn => by
  obtain ⟨b', off', hA, hc⟩ := h (by intro e; rw [e] at hn; simp at hn)
  injection hA with hA
  injection hA with h1 h2
  subst h1 h2
  refine ⟨b, off + k * 2, rfl, fun j x hj => ?_⟩
  rw [List.getElem?_drop] at hj
  have := hc _ x hj
  rw [show off + k * 2 + j * 2 = off + (k + j) * 2 by omega]
  exact this
/-- A slice of just these cells. -/
def Cells (L : List Cl) (w : World) (v : Value) : Prop := ∃ A c, v = .slice A L.length c ∧ L.length ≤ c ∧ RdC w A L
theorem Cells.keep {L : List Cl} {w w' : World} {v : Value} (h : Cells L w v) (hx : Keeps w w') : Cells L w' v := by
  obtain ⟨A, c, hv, hc, hr⟩ := h
  exact ⟨A, c, hv, hc, hr.keep hx⟩
theorem Cells.ext {L : List Cl} {w w' : World} {v : Value} (h : Cells L w v) (hx : Ext w w') : Cells L w' v := h.keep hx.keeps
theorem Cells.nil (w : World) : Cells [] w (.slice none 0 0) := ⟨none, 0, rfl, Nat.le_refl _, RdC.nil _ _⟩
/-- How long keys and values may be. -/
def Small (L : List Cl) : Prop := ∀ x ∈ L, x.1.length ≤ 140737488351232 ∧ x.2.length ≤ 140737488351232
theorem Small.at {L : List Cl} (h : Small L) {j : Nat} {x : Cl} (hj : L[j]? = some x) : x.1.length ≤ 140737488351232 ∧ x.2.length ≤ 140737488351232 := h x (List.mem_of_getElem? hj)
def sz (x : Cl) : Nat := 2 + x.1.length + x.2.length
def szs (L : List Cl) : Nat := (L.map sz).sum
theorem szs_snoc (L : List Cl) (k : Nat) (x : Cl) (h : L[k]? = some x) : szs (L.take (k + 1)) = szs (L.take k) + sz x := by
  unfold szs
  rw [List.take_add_one, h]
  simp
theorem szs_le {L : List Cl} (h : Small L) : szs L ≤ L.length * 281474976710656 := by
  induction L with
  | nil => simp [szs]
  | cons x L ih =>
    have h1 := h x (by simp)
    have h2 := ih (fun y hy => h y (by simp [hy]))
    have e : szs (x :: L) = sz x + szs L := by simp [szs]
    rw [e, List.length_cons, Nat.add_mul]
    unfold sz
    omega
theorem Small.take {L : List Cl} (h : Small L) (k : Nat) : Small (L.take k) := fun x hx => h x (List.mem_of_mem_take hx)
theorem Small.drop {L : List Cl} (h : Small L) (k : Nat) : Small (L.drop k) := fun x hx => h x (List.mem_of_mem_drop hx)
theorem szs_take_le {L : List Cl} (h : Small L) (hl : L.length ≤ 1000) (k : Nat) : szs (L.take k) ≤ 281474976710656000 := by
  have h1 := szs_le (h.take k)
  have h2 : (L.take k).length ≤ 1000 := by rw [List.length_take]; omega
  have h3 := Nat.mul_le_mul_right 281474976710656 h2
  omega
theorem szs_add_wrap {s n1 n2 : Nat} (h : s ≤ 281474976710656000) (h1 : n1 ≤ 140737488351232) (h2 : n2 ≤ 140737488351232) : wrap64 ((s : Int) + (2 + (n1 : Int) + (n2 : Int))) = (s : Int) + (2 + (n1 : Int) + (n2 : Int)) := by unfold wrap64; omega
end Go.Proofs.Ytmamhinpkioogaa
