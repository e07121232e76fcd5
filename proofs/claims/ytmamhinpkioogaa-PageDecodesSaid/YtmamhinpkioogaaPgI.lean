/-
  Cells of the call's own, one by one: plain.
-/
import Derived.Test.YtmamhinpkioogaaPgH
namespace Go.Proofs.Ytmamhinpkioogaa
open Go.RowKit

theorem own_set {w : World} {B e size n : Nat} {v : Value} {vs : List Value} (h : w.ownsRow B e size v n vs) {g : Nat} (hg : v.ownBlock = some g) (k : Nat) (u : Value) : (w.setCell ⟨g, k, none⟩ u).ownsRow B e size v n (vs.set k u) := by
  refine ⟨by rw [List.length_set]; exact h.1, ?_⟩
  rcases h.2 with ⟨rfl, _⟩ | ⟨g', cap, cur, rfl, hb, hg', hnc, hcm, hcs, ht⟩
  · cases hg
  · obtain rfl : g' = g := by
      have : (Value.slice (some ⟨g', 0, none⟩) n cap).ownBlock = some g' := rfl
      rw [this] at hg
      exact Option.some.inj hg
    refine .inr ⟨g', cap, cur.setIfInBounds k u, rfl, hb, ?_, hnc, hcm, by simpa using hcs, ?_⟩
    · simp [World.setCell, Array.getElem?_modify, hg']
    · rw [← ht, Array.toList_setIfInBounds, List.take_set]
theorem own_cell {w : World} {B e size n c : Nat} {g : Nat} {vs : List Value} (h : w.ownsRow B e size (.slice (some ⟨g, 0, none⟩) n c) n vs) {k : Nat} {u : Value} (hk : vs[k]? = some u) : w.cell? ⟨g, k, none⟩ = some u ∧ w.frozen? ⟨g, k, none⟩ = false := by
  rcases h.2 with ⟨hv, _⟩ | ⟨g', cap, cur, hv, hb, hg', rest⟩
  · cases hv
  · injection hv with hA
    injection hA with hA
    injection hA with hA
    subst hA
    have := h.cells (g := g) rfl k u hk
    rw [add_flat, Nat.zero_add] at this
    exact ⟨this, by simp [World.frozen?, hg']⟩
/-- Where it lies. -/
theorem own_block {w : World} {B e size n : Nat} {v : Value} {vs : List Value} (h : w.ownsRow B e size v n vs) : ∀ k, v.ownBlock = some k → B ≤ k ∧ k < w.heap.size ∧ ∃ cs fr, w.heap[k]? = some (.cells cs e fr) := fun k hk => by
  rcases h.2 with ⟨rfl, _⟩ | ⟨g, cap, cur, rfl, hb, hg, _⟩
  · cases hk
  · obtain rfl : g = k := by
      have : (Value.slice (some ⟨g, 0, none⟩) n cap).ownBlock = some g := rfl
      rw [this] at hk
      exact Option.some.inj hk
    exact ⟨hb, (Array.getElem?_eq_some_iff.1 hg).1, _, _, hg⟩
theorem own_apart {w : World} {B B' e e' size size' n n' : Nat} {v v' : Value} {vs vs' : List Value} (h : w.ownsRow B e size v n vs) (h' : w.ownsRow B' e' size' v' n' vs') (ht : e ≠ e') : ∀ k, v.ownBlock = some k → v'.ownBlock ≠ some k := fun k hk hk' => by
  obtain ⟨_, _, cs, fr, h1⟩ := own_block h k hk
  obtain ⟨_, _, cs', fr', h2⟩ := own_block h' k hk'
  rw [h1] at h2
  injection h2 with h2
  injection h2 with _ h3 _
  exact ht h3
/-- It stays, if another block is written. -/
theorem own_other {w : World} {B e size n : Nat} {v : Value} {vs : List Value} (h : w.ownsRow B e size v n vs) {g : Nat} (hg : v.ownBlock ≠ some g) (k : Nat) (u : Value) : (w.setCell ⟨g, k, none⟩ u).ownsRow B e size v n vs := by
  refine ⟨h.1, ?_⟩
  rcases h.2 with hn | ⟨g', cap, cur, rfl, hb, hg', rest⟩
  · exact .inl hn
  · exact .inr ⟨g', cap, cur, rfl, hb, (Below.heap_setCell w ⟨g, k, none⟩ u g' (fun e => hg (by rw [show (Value.slice (some ⟨g', 0, none⟩) n cap).ownBlock = some g' from rfl]; exact congrArg some e))).trans hg', rest⟩
theorem own_ext {w w' : World} {B e size n : Nat} {v : Value} {vs : List Value} (h : w.ownsRow B e size v n vs) (hx : Ext w w') : w'.ownsRow B e size v n vs := by
  refine ⟨h.1, ?_⟩
  rcases h.2 with hn | ⟨g, cap, cur, rfl, hb, hg, rest⟩
  · exact .inl hn
  · exact .inr ⟨g, cap, cur, rfl, hb, (Below.block hx g (Array.getElem?_eq_some_iff.1 hg).1).trans hg, rest⟩
/-- No value's block is one of a later cell. -/
def DistV (vs : List Value) (i : Nat) : Prop := ∀ (j k g : Nat) (v u1 u2 : Value), j < k → k < i → vs[j * 2 + 1]? = some v → v.ownBlock = some g → vs[k * 2]? = some u1 → vs[k * 2 + 1]? = some u2 → u1.ownBlock ≠ some g ∧ u2.ownBlock ≠ some g
/-- Cells of the call's own; up to a place their keys and values too, behind it those lie where they lay in w0. -/
def OutV (w0 : World) (B i : Nat) (L : List Cl) (w : World) (v : Value) : Prop := ∃ vs, w.ownsRow B 40 2 v L.length vs ∧ (∀ j x, L[j]? = some x → ∃ v1 v2, vs[j * 2]? = some v1 ∧ vs[j * 2 + 1]? = some v2 ∧ ((j < i ∧ Own w B v1 x.1 ∧ Own w B v2 x.2) ∨ (i ≤ j ∧ Bytes x.1 w0 v1 ∧ Bytes x.2 w0 v2))) ∧ DistV vs i
theorem OutV.first {w0 w : World} {B : Nat} {L : List Cl} {v : Value} (h : OwnV w0 B L w v) : OutV w0 B 0 L w v := by
  obtain ⟨vs, h1, h2⟩ := h
  refine ⟨vs, h1, fun j x hj => ?_, fun j k g v u1 u2 _ hk => absurd hk (Nat.not_lt_zero _)⟩
  obtain ⟨A1, c1, A2, c2, k1, k2, k3, k4, k5, k6⟩ := h2.2 j x hj
  exact ⟨_, _, k1, k2, .inr ⟨Nat.zero_le _, ⟨A1, c1, rfl, k3, k5⟩, ⟨A2, c2, rfl, k4, k6⟩⟩⟩
theorem OutV.slice {w0 w : World} {B i : Nat} {L : List Cl} {v : Value} (h : OutV w0 B i L w v) : ∃ A c, v = .slice A L.length c ∧ L.length ≤ c := by
  obtain ⟨vs, h1, _⟩ := h
  rcases h1.2 with ⟨rfl, h0⟩ | ⟨g, cap, cur, rfl, _, _, hnc, _⟩
  · exact ⟨none, 0, by rw [h0], by rw [h0]; exact Nat.le_refl _⟩
  · exact ⟨_, _, rfl, hnc⟩
theorem OutV.step {w0 w : World} {B i c : Nat} {L : List Cl} {A : Option Addr} {x : Cl} (h : OutV w0 B i L w (.slice A L.length c)) (hi : L[i]? = some x) (hBw : B ≤ w.heap.size) : ∃ g A1 c1 A2 c2, A = some ⟨g, 0, none⟩ ∧ B ≤ g ∧ w.cell? ⟨g, i * 2, none⟩ = some (.slice A1 x.1.length c1) ∧ w.cell? ⟨g, i * 2 + 1, none⟩ = some (.slice A2 x.2.length c2) ∧ Rd w0 A1 x.1 ∧ Rd w0 A2 x.2 ∧
    (∀ w2 u1 u2, Ext w w2 → Own w2 w.heap.size u1 x.1 → Own w2 w.heap.size u2 x.2 → (w2.cell? ⟨g, i * 2, none⟩ = some (.slice A1 x.1.length c1) ∧ w2.cell? ⟨g, i * 2 + 1, none⟩ = some (.slice A2 x.2.length c2) ∧ w2.frozen? ⟨g, i * 2, none⟩ = false ∧ w2.frozen? ⟨g, i * 2 + 1, none⟩ = false) ∧
      OutV w0 B (i + 1) L ((w2.setCell ⟨g, i * 2, none⟩ u1).setCell ⟨g, i * 2 + 1, none⟩ u2) (.slice A L.length c)) := by
  obtain ⟨vs, h1, h2, hD⟩ := h
  obtain ⟨v1, v2, k1, k2, hk⟩ := h2 i x hi
  obtain ⟨⟨A1, c1, rfl, -, q1⟩, ⟨A2, c2, rfl, -, q2⟩⟩ : Bytes x.1 w0 v1 ∧ Bytes x.2 w0 v2 := by
    rcases hk with ⟨hlt, _⟩ | ⟨_, hk⟩
    · omega
    · exact hk
  have hlt := (List.getElem?_eq_some_iff.1 hi).1
  obtain ⟨g, rfl, hBg⟩ : ∃ g, A = some ⟨g, 0, none⟩ ∧ B ≤ g := by
    rcases h1.2 with ⟨_, h0⟩ | ⟨g, cap, cur, hv, hb, _⟩
    · omega
    · injection hv with hA; exact ⟨g, hA, hb⟩
  refine ⟨g, A1, c1, A2, c2, rfl, hBg, (own_cell h1 k1).1, (own_cell h1 k2).1, q1, q2, fun w2 u1 u2 hx o1' o2' => ?_⟩
  have o1 : Own w2 B u1 x.1 := o1'.mono hBw
  have o2 : Own w2 B u2 x.2 := o2'.mono hBw
  have h3 := own_ext h1 hx
  refine ⟨⟨(own_cell h3 k1).1, (own_cell h3 k2).1, (own_cell h3 k1).2, (own_cell h3 k2).2⟩, ?_⟩
  have hob : (Value.slice (some ⟨g, 0, none⟩) L.length c).ownBlock = some g := rfl
  have h4 := own_set (own_set h3 hob (i * 2) u1) hob (i * 2 + 1) u2
  refine ⟨_, h4, fun j y hj => ?_, fun j k q v z1 z2 hjk hki e1 eq e2 e3 => ?_⟩
  rotate_left
  · have hvl : vs.length = L.length * 2 := h1.1
    rw [List.getElem?_set_ne (by omega), List.getElem?_set_ne (by omega)] at e1
    by_cases hk : k = i
    · subst hk
      rw [List.getElem?_set_ne (by omega), List.getElem?_set_self (by omega)] at e2
      rw [List.getElem?_set_self (by rw [List.length_set]; omega)] at e3
      injection e2 with e2
      injection e3 with e3
      subst e2 e3
      obtain ⟨y, hy⟩ : ∃ y, L[j]? = some y := ⟨_, List.getElem?_eq_getElem (by omega)⟩
      obtain ⟨y1, y2, _, b2, hb⟩ := h2 j y hy
      rcases hb with ⟨_, _, hb⟩ | ⟨hb, _⟩
      · rw [e1] at b2
        injection b2 with b2
        subst b2
        have hq := (own_block hb q eq).2.1
        exact ⟨fun e => by have := (own_block o1' q e).1; omega, fun e => by have := (own_block o2' q e).1; omega⟩
      · omega
    · rw [List.getElem?_set_ne (by omega), List.getElem?_set_ne (by omega)] at e2 e3
      exact hD j k q v z1 z2 hjk (by omega) e1 eq e2 e3
  have keepO : ∀ {u : Value} {l : List UInt8}, Own w2 B u l → Own ((w2.setCell ⟨g, i * 2, none⟩ u1).setCell ⟨g, i * 2 + 1, none⟩ u2) B u l := fun ho => by
    have hne := own_apart h3 ho (by decide) g hob
    exact own_other (own_other ho hne _ _) hne _ _
  have hjl := (List.getElem?_eq_some_iff.1 hj).1
  have hvl : vs.length = L.length * 2 := h1.1
  by_cases hji : j = i
  · subst hji
    rw [hi] at hj
    injection hj with hj
    subst hj
    refine ⟨u1, u2, ?_, ?_, .inl ⟨Nat.lt_succ_self _, keepO o1, keepO o2⟩⟩
    · rw [List.getElem?_set_ne (by omega), List.getElem?_set_self (by omega)]
    · rw [List.getElem?_set_self (by rw [List.length_set]; omega)]
  · obtain ⟨y1, y2, e1, e2, hk⟩ := h2 j y hj
    refine ⟨y1, y2, ?_, ?_, ?_⟩
    · rw [List.getElem?_set_ne (by omega), List.getElem?_set_ne (by omega)]; exact e1
    · rw [List.getElem?_set_ne (by omega), List.getElem?_set_ne (by omega)]; exact e2
    · rcases hk with ⟨a1, a2, a3⟩ | ⟨a1, a2⟩
      · exact .inl ⟨by omega, keepO (a2.ext hx), keepO (a3.ext hx)⟩
      · exact .inr ⟨by omega, a2⟩
/-- Cells all of the call's own. -/
def CellsO (B : Nat) (L : List Cl) (w : World) (v : Value) : Prop := ∃ vs, w.ownsRow B 40 2 v L.length vs ∧ ∀ j x, L[j]? = some x → ∃ v1 v2, vs[j * 2]? = some v1 ∧ vs[j * 2 + 1]? = some v2 ∧ Own w B v1 x.1 ∧ Own w B v2 x.2
def CellsD (B : Nat) (L : List Cl) (w : World) (v : Value) : Prop := ∃ vs, w.ownsRow B 40 2 v L.length vs ∧ (∀ j x, L[j]? = some x → ∃ v1 v2, vs[j * 2]? = some v1 ∧ vs[j * 2 + 1]? = some v2 ∧ Own w B v1 x.1 ∧ Own w B v2 x.2) ∧ DistV vs L.length
theorem CellsD.o {B : Nat} {L : List Cl} {w : World} {v : Value} (h : CellsD B L w v) : CellsO B L w v := by
  obtain ⟨vs, h1, h2, _⟩ := h
  exact ⟨vs, h1, h2⟩
theorem OutV.last {w0 w : World} {B i : Nat} {L : List Cl} {v : Value} (h : OutV w0 B i L w v) (hi : L.length ≤ i) : CellsD B L w v := by
  obtain ⟨vs, h1, h2, hD⟩ := h
  refine ⟨vs, h1, fun j x hj => ?_, fun j k g v u1 u2 hjk hk => hD j k g v u1 u2 hjk (by omega)⟩
  have hjl := (List.getElem?_eq_some_iff.1 hj).1
  obtain ⟨v1, v2, k1, k2, hk⟩ := h2 j x hj
  rcases hk with ⟨_, hk⟩ | ⟨hk, _⟩
  · exact ⟨v1, v2, k1, k2, hk⟩
  · omega
theorem CellsO.mono {B B' : Nat} {L : List Cl} {w : World} {v : Value} (h : CellsO B L w v) (hB : B' ≤ B) : CellsO B' L w v := by
  obtain ⟨vs, h1, h2⟩ := h
  refine ⟨vs, ⟨h1.1, ?_⟩, fun j x hj => ?_⟩
  · rcases h1.2 with hn | ⟨g, cap, cur, rfl, hb, rest⟩
    · exact .inl hn
    · exact .inr ⟨g, cap, cur, rfl, Nat.le_trans hB hb, rest⟩
  · obtain ⟨v1, v2, k1, k2, k3, k4⟩ := h2 j x hj
    exact ⟨v1, v2, k1, k2, k3.mono hB, k4.mono hB⟩
theorem CellsD.mono {B B' : Nat} {L : List Cl} {w : World} {v : Value} (h : CellsD B L w v) (hB : B' ≤ B) : CellsD B' L w v := by
  obtain ⟨vs, h1, h2, h3⟩ := h
  refine ⟨vs, ⟨h1.1, ?_⟩, fun j x hj => ?_, h3⟩
  · rcases h1.2 with hn | ⟨g, cap, cur, rfl, hb, rest⟩
    · exact .inl hn
    · exact .inr ⟨g, cap, cur, rfl, Nat.le_trans hB hb, rest⟩
  · obtain ⟨v1, v2, k1, k2, k3, k4⟩ := h2 j x hj
    exact ⟨v1, v2, k1, k2, k3.mono hB, k4.mono hB⟩
theorem CellsO.cells {B : Nat} {L : List Cl} {w : World} {v : Value} (h : CellsO B L w v) : Cells L w v := by
  obtain ⟨vs, h1, h2⟩ := h
  rcases h1.2 with ⟨rfl, h0⟩ | ⟨g, cap, cur, rfl, _, _, hnc, _⟩
  · exact ⟨none, 0, by rw [h0], by rw [h0]; exact Nat.le_refl _, fun hn => absurd (List.length_eq_zero_iff.1 h0) hn⟩
  · refine ⟨_, _, rfl, hnc, fun _ => ⟨g, 0, rfl, fun j x hj => ?_⟩⟩
    obtain ⟨v1, v2, k1, k2, k3, k4⟩ := h2 j x hj
    obtain ⟨A1, c1, rfl, a1, b1⟩ := k3.slice
    obtain ⟨A2, c2, rfl, a2, b2⟩ := k4.slice
    rw [Nat.zero_add]
    exact ⟨A1, c1, A2, c2, (own_cell h1 k1).1, (own_cell h1 k2).1, a1, a2, b1, b2⟩
end Go.Proofs.Ytmamhinpkioogaa
