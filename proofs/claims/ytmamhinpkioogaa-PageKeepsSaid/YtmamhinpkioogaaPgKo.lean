/-
  Cells of the call's own whose values are written over; the texts of cells.
-/
import Derived.Test.YtmamhinpkioogaaPgDp
import Derived.Test.YtmamhinpkioogaaTvg
namespace Go.Proofs.Ytmamhinpkioogaa
open Go.RowKit

/-- A slice of the call's own of so many bytes, whatever they are. -/
def AnyB (w : World) (B : Nat) (v : Value) (n : Nat) : Prop := ∃ us : List Value, (∀ j, j < n → ∃ z : Int, us[j]? = some (.int .u8 z)) ∧ w.ownsRow B 5 1 v n us
theorem AnyB.of {w : World} {B : Nat} {v : Value} {l : List UInt8} (h : Own w B v l) : AnyB w B v l.length := by
  refine ⟨bs l, fun j hj => ?_, h⟩
  rw [bs_get, List.getElem?_eq_getElem hj]
  exact ⟨_, rfl⟩
theorem AnyB.ext {w w' : World} {B n : Nat} {v : Value} (h : AnyB w B v n) (hx : Ext w w') : AnyB w' B v n := by
  obtain ⟨us, h1, h2⟩ := h
  exact ⟨us, h1, own_ext h2 hx⟩
theorem AnyB.set {w : World} {B n : Nat} {v : Value} (h : AnyB w B v n) (g k : Nat) (z : Int) : AnyB (w.setCell ⟨g, k, none⟩ (.int .u8 z)) B v n := by
  obtain ⟨us, h1, h2⟩ := h
  by_cases hg : v.ownBlock = some g
  · refine ⟨us.set k (.int .u8 z), fun j hj => ?_, own_set h2 hg k _⟩
    rw [List.getElem?_set]
    obtain ⟨y, hy⟩ := h1 j hj
    split
    · rename_i e
      subst e
      obtain ⟨hl, -⟩ := List.getElem?_eq_some_iff.1 hy
      rw [if_pos hl]
      exact ⟨_, rfl⟩
    · exact ⟨y, hy⟩
  · exact ⟨us, h1, own_other h2 hg k _⟩
theorem AnyB.slice {w : World} {B n : Nat} {v : Value} (h : AnyB w B v n) : ∃ A c, v = .slice A n c := by
  obtain ⟨us, h1, h2⟩ := h
  rcases h2.2 with ⟨rfl, h0⟩ | ⟨g, cap, cur, rfl, _⟩
  · exact ⟨none, 0, by rw [h0]⟩
  · exact ⟨_, _, rfl⟩
theorem AnyB.at {w : World} {B n c : Nat} {A : Option Addr} (h : AnyB w B (.slice A n c) n) {k : Nat} (hk : k < n) : ∃ g z, A = some ⟨g, 0, none⟩ ∧ B ≤ g ∧ w.cell? ⟨g, k, none⟩ = some (.int .u8 z) ∧ w.frozen? ⟨g, k, none⟩ = false := by
  obtain ⟨us, h1, h2⟩ := h
  obtain ⟨z, hz⟩ := h1 k hk
  rcases h2.2 with ⟨hv, h0⟩ | ⟨g, cap, cur, hv, hb, _⟩
  · omega
  · injection hv with hA
    subst hA
    exact ⟨g, z, rfl, hb, (own_cell h2 hz).1, (own_cell h2 hz).2⟩
/-- Cells of the call's own: from place i on they are as told, ahead of it their values may be anything. -/
def Xc (B i : Nat) (L : List Cl) (w : World) (v : Value) : Prop := ∃ vs, w.ownsRow B 40 2 v L.length vs ∧ DistV vs L.length ∧
  ∀ j y, L[j]? = some y → ∃ v1 v2, vs[j * 2]? = some v1 ∧ vs[j * 2 + 1]? = some v2 ∧ AnyB w B v2 y.2.length ∧ (i ≤ j → Own w B v1 y.1 ∧ Own w B v2 y.2)
section
variable {B i : Nat} {L : List Cl} {w : World} {v : Value}
theorem Xc.of (h : CellsD B L w v) : Xc B 0 L w v := by
  obtain ⟨vs, h1, h2, h3⟩ := h
  refine ⟨vs, h1, h3, fun j y hy => ?_⟩
  obtain ⟨v1, v2, k1, k2, k3, k4⟩ := h2 j y hy
  exact ⟨v1, v2, k1, k2, AnyB.of k4, fun _ => ⟨k3, k4⟩⟩
theorem Xc.up (h : Xc B i L w v) {i2 : Nat} (hi : i ≤ i2) : Xc B i2 L w v := by
  obtain ⟨vs, h1, h2, h3⟩ := h
  refine ⟨vs, h1, h2, fun j y hy => ?_⟩
  obtain ⟨v1, v2, k1, k2, k3, k4⟩ := h3 j y hy
  exact ⟨v1, v2, k1, k2, k3, fun hj => k4 (by omega)⟩
theorem Xc.ext {w' : World} (h : Xc B i L w v) (hx : Ext w w') : Xc B i L w' v := by
  obtain ⟨vs, h1, h2, h3⟩ := h
  refine ⟨vs, own_ext h1 hx, h2, fun j y hy => ?_⟩
  obtain ⟨v1, v2, k1, k2, k3, k4⟩ := h3 j y hy
  exact ⟨v1, v2, k1, k2, k3.ext hx, fun hj => ⟨(k4 hj).1.ext hx, (k4 hj).2.ext hx⟩⟩
theorem Xc.slice (h : Xc B i L w v) : ∃ A c, v = .slice A L.length c := by
  obtain ⟨vs, h1, _⟩ := h
  rcases h1.2 with ⟨rfl, h0⟩ | ⟨g, cap, cur, rfl, _⟩
  · exact ⟨none, 0, by rw [h0]⟩
  · exact ⟨_, _, rfl⟩
/-- A cell that is whole yet. -/
theorem Xc.rd {N c : Nat} {A : Option Addr} (h : Xc B i L w (.slice A N c)) (hN : L.length = N) {j : Nat} {y : Cl} (hy : L[j]? = some y) (hj : i ≤ j) :
    ∃ g A1 c1 A2 c2, A = some ⟨g, 0, none⟩ ∧ w.cell? ⟨g, j * 2, none⟩ = some (.slice A1 y.1.length c1) ∧ w.cell? ⟨g, j * 2 + 1, none⟩ = some (.slice A2 y.2.length c2) ∧ Rd w A1 y.1 ∧ Rd w A2 y.2 := by
  subst hN
  obtain ⟨vs, h1, -, h3⟩ := h
  obtain ⟨v1, v2, k1, k2, -, k4⟩ := h3 j y hy
  obtain ⟨o1, o2⟩ := k4 hj
  obtain ⟨A1, c1, rfl, -, r1⟩ := o1.slice
  obtain ⟨A2, c2, rfl, -, r2⟩ := o2.slice
  rcases h1.2 with ⟨hv, h0⟩ | ⟨g, cap, cur, hv, hb, _⟩
  · have := (List.getElem?_eq_some_iff.1 hy).1; omega
  · injection hv with hA
    subst hA
    exact ⟨g, A1, c1, A2, c2, rfl, (own_cell h1 k1).1, (own_cell h1 k2).1, r1, r2⟩
/-- A cell's value, and what a write into it leaves. -/
theorem Xc.val {N c : Nat} {A : Option Addr} (h : Xc B i L w (.slice A N c)) (hN : L.length = N) {j : Nat} {y : Cl} (hy : L[j]? = some y) (hj : j < i) :
    ∃ g A2 c2, A = some ⟨g, 0, none⟩ ∧ w.cell? ⟨g, j * 2 + 1, none⟩ = some (.slice A2 y.2.length c2) ∧ (∀ k, k < y.2.length → ∃ g2 z, A2 = some ⟨g2, 0, none⟩ ∧ B ≤ g2 ∧ w.cell? ⟨g2, k, none⟩ = some (.int .u8 z) ∧ w.frozen? ⟨g2, k, none⟩ = false ∧
      ∀ z', Xc B i L (w.setCell ⟨g2, k, none⟩ (.int .u8 z')) (.slice A N c)) := by
  subst hN
  obtain ⟨vs, h1, h2, h3⟩ := h
  obtain ⟨v1, v2, k1, k2, k3, -⟩ := h3 j y hy
  obtain ⟨A2, c2, rfl⟩ := k3.slice
  have hjl := (List.getElem?_eq_some_iff.1 hy).1
  obtain ⟨g, rfl⟩ : ∃ g, A = some ⟨g, 0, none⟩ := by
    rcases h1.2 with ⟨hv, h0⟩ | ⟨g, cap, cur, hv, hb, _⟩
    · omega
    · injection hv with hA
      exact ⟨g, hA⟩
  refine ⟨g, A2, c2, rfl, (own_cell h1 k2).1, fun k hk => ?_⟩
  obtain ⟨g2, z, rfl, hb2, hc2, hf2⟩ := k3.at hk
  refine ⟨g2, z, rfl, hb2, hc2, hf2, fun z' => ?_⟩
  have hne : (Value.slice (some ⟨g, 0, none⟩) L.length c).ownBlock ≠ some g2 := by
    intro e
    obtain ⟨us, hu, ho⟩ := k3
    exact own_apart h1 ho (by decide) g2 e rfl
  refine ⟨vs, own_other h1 hne k _, h2, fun j2 y2 hy2 => ?_⟩
  obtain ⟨p1, p2, q1, q2, q3, q4⟩ := h3 j2 y2 hy2
  refine ⟨p1, p2, q1, q2, q3.set g2 k z', fun hi2 => ?_⟩
  have hj2 := (List.getElem?_eq_some_iff.1 hy2).1
  obtain ⟨d1, d2⟩ := h2 j j2 g2 _ p1 p2 (by omega) hj2 k2 rfl q1 q2
  exact ⟨own_other (q4 hi2).1 d1 k _, own_other (q4 hi2).2 d2 k _⟩
end
/-- A cell's text. -/
def txC (y : Cl) : ByteArray := (⟨y.1.toArray⟩ ++ ⟨#[0]⟩) ++ ⟨y.2.toArray⟩
def txL (y : Cl) : List UInt8 := (txC y).data.toList
theorem txL_value (y : Cl) : Value.string ⟨(txL y).toArray⟩ = .string (txC y) := by
  unfold txL
  congr 1
end Go.Proofs.Ytmamhinpkioogaa
