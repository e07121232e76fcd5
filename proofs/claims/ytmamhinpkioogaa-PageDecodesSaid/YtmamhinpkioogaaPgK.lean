/-
  bytes.Clone and a cell of one's own: contracts.
-/
import Derived.Test.YtmamhinpkioogaaPgC
import Derived.Laws.Cover3
namespace Go.Proofs.Ytmamhinpkioogaa
open Go.RowKit

theorem run_eql_nil {P : Program} (w : World) (t e : TypeId) (a : Option Addr) (l c : Nat) (h : P.underlying t = some (.slice e)) : (binOp .eql t (.slice a l c) (.slice none 0 0)).run P w = .ok (.bool a.isNone) w := by
  simp only [binOp]
  simp [run_equal_slice_nil w t e a l c h]
theorem Own.empty (w : World) : Own (w.alloc (.cells #[] 5)) w.heap.size (.slice (some ⟨w.heap.size, 0, none⟩) 0 0) [] :=
  ⟨rfl, .inr ⟨w.heap.size, 0, #[], rfl, Nat.le_refl _, heap_alloc_new w _, Nat.le_refl _, by unfold maxLen; decide, rfl, rfl⟩⟩
theorem Own.mono {w : World} {B B' : Nat} {v : Value} {l : List UInt8} (h : Own w B v l) (hB : B' ≤ B) : Own w B' v l := by
  refine ⟨h.1, ?_⟩
  rcases h.2 with hn | ⟨g, cap, cur, rfl, hb, rest⟩
  · exact .inl hn
  · exact .inr ⟨g, cap, cur, rfl, Nat.le_trans hB hb, rest⟩
theorem Own.slice {w : World} {B : Nat} {v : Value} {l : List UInt8} (h : Own w B v l) : ∃ A c, v = .slice A l.length c ∧ l.length ≤ c ∧ Rd w A l := h.bytes
/-- It stays, if just blocks below turn. -/
theorem Own.far {w : World} {B : Nat} {v : Value} {l : List UInt8} (h : Own w B v l) {g : Nat} (hg : g < B) (i : Nat) (u : Value) : Own (w.setCell ⟨g, i, none⟩ u) B v l := by
  refine ⟨h.1, ?_⟩
  rcases h.2 with hn | ⟨g', cap, cur, rfl, hb, hg', rest⟩
  · exact .inl hn
  · exact .inr ⟨g', cap, cur, rfl, hb, (Below.heap_setCell w ⟨g, i, none⟩ u g' (by show g' ≠ g; omega)).trans hg', rest⟩
set_option maxRecDepth 20000 in
set_option maxHeartbeats 800000 in
theorem clone_any (A : Option Addr) (l : List UInt8) (n c : Nat) (w : World) (hr : Rd w A l) (hn : l.length = n) (hl : n ≤ 140737488351232) : Calls Try.prog 40 #[.slice A n c] w (Ret w (fun w' v => Own w' w.heap.size v l)) := by
  rcases A with _ | a
  · have hl : l = [] := by
      cases l with
      | nil => rfl
      | cons x xs => obtain ⟨_, _, hA, _⟩ := hr (by simp); cases hA
    subst hl
    clear hr
    have hq := fun (W : World) => run_eql_nil (P := Try.prog) W 28 5 none n c Try.underlying28
    go_enter Try.func40, Try.ntmps40
    go_wp2
    go_ret
    exact Ret.mk (Ext.refl _) (Own.nil _ _)
  · have HR := hide hr
    have HL := hide hl
    have hq := fun (W : World) => run_eql_nil (P := Try.prog) W 28 5 (some a) n c Try.underlying28
    clear hr hl
    go_enter Try.func40, Try.ntmps40
    go_wp2_with (at_builtin; refine wpList_cat rfl (.tmp 5) (.tmp 6) rfl w.heap.size _ [] l _ n c rfl rfl hn.symm (Own.empty w) (HR.out.ext (Ext.alloc _ _)) (by simp) (by rw [List.length_nil, hn]; have := HL.out; omega) ?_; intro v2 w2 hown hb; rw [List.nil_append] at hown; have O2 := hide hown; have X2 : Hid (Ext w w2) := hide (Below.trans (Ext.alloc w _) hb); clear hown hb)
    go_ret
    exact Ret.mk X2.out O2.out
/-- A cell of the call's own as a value. -/
def CellO (B : Nat) (x : Cl) (w : World) (v : Value) : Prop := ∃ v1 v2, v = .agg #[v1, v2] ∧ Own w B v1 x.1 ∧ Own w B v2 x.2
set_option maxRecDepth 20000 in
set_option maxHeartbeats 1600000 in
theorem cell_any (A1 A2 : Option Addr) (x : Cl) (n1 n2 c1 c2 : Nat) (w : World) (hr1 : Rd w A1 x.1) (hr2 : Rd w A2 x.2) (hn1 : x.1.length = n1) (hn2 : x.2.length = n2) (h1 : n1 ≤ 140737488351232) (h2 : n2 ≤ 140737488351232) :
    Calls Try.prog 37 #[.slice A1 n1 c1, .slice A2 n2 c2] w (Ret w (CellO w.heap.size x)) := by
  have K1 := hide (fun (W : World) (hx : Ext w W) => clone_any A1 x.1 n1 c1 W (hr1.ext hx) hn1 h1)
  have K2 := hide (fun (W : World) (hx : Ext w W) => clone_any A2 x.2 n2 c2 W (hr2.ext hx) hn2 h2)
  obtain ⟨w1, hw1⟩ : ∃ w1, w1 = w.alloc (.cells #[.slice none 0 0, .slice none 0 0] 40) := ⟨_, rfl⟩
  obtain ⟨hb, hh⟩ : ∃ hb, hb = w.heap.size := ⟨_, rfl⟩
  have HS : Hid (hb < w1.heap.size ∧ w.heap.size ≤ hb) := hide (by rw [hw1, hh]; simp)
  have X1 : Hid (Ext w w1) := hide (by rw [hw1]; exact Ext.alloc _ _)
  have R1 : Hid (Rw w1 hb 40 [.slice none 0 0, .slice none 0 0]) := hide (by rw [hw1, hh]; exact Rw.new _ _ _)
  clear hr1 hr2 h1 h2 hn1 hn2
  go_enter Try.func37, Try.ntmps37
  go_upto_region 1 with fail
  rw [← hw1, ← hh]
  clear hw1 hh
  go_wp2_with (first
    | (go_at_call 40; (with_reducible refine (K1.out _ X1.out).mono ?_); rintro e w2 ⟨v2, rfl, hx2, ho2⟩; obtain ⟨B2, d2, rfl, -, -⟩ := Own.slice ho2; have X2 := hide (X1.out.trans hx2); have R2 := hide (R1.out.ext hx2); have O2 := hide (ho2.mono (Nat.le_refl w1.heap.size)); clear hx2 ho2)
    | (go_at_call 40; (with_reducible refine (K2.out _ X2.out).mono ?_); rintro e w3 ⟨v3, rfl, hx3, ho3⟩; obtain ⟨B3, d3, rfl, -, -⟩ := Own.slice ho3; have X3 := hide (X2.out.trans hx3); have R3 := hide (R2.out.ext hx3); have O3 := hide (ho3.mono (Nat.succ_le_of_lt R2.out.lt)); have P3 := hide (O2.out.ext hx3); clear hx3 ho3;
       have k0 := R3.out.cell (i := 0) rfl; have k1 := R3.out.cell (i := 1) rfl; have f0 := R3.out.frozen 0; have f1 := R3.out.frozen 1))
  have R5 := ((R3.out.set 0 (.slice B2 x.1.length d2)).set 1 (.slice B3 x.2.length d3))
  have e0 := R5.cell (i := 0) rfl
  have e1 := R5.cell (i := 1) rfl
  have XE : Ext w ((w3.setCell ⟨hb, 0, none⟩ (.slice B2 x.1.length d2)).setCell ⟨hb, 1, none⟩ (.slice B3 x.2.length d3)) := Below.setCell (p := ⟨hb, 1, none⟩) (Below.setCell (p := ⟨hb, 0, none⟩) X3.out HS.out.2 _) HS.out.2 _
  refine bodyPost_ret (v := .agg #[(.slice B2 x.1.length d2), (.slice B3 x.2.length d3)]) (by simp [results, Try.results37, go_sem, e0, e1]; try rfl) rfl ?_
  exact Ret.mk XE ⟨_, _, rfl, ((P3.out.far HS.out.1 0 _).far HS.out.1 1 _).mono X1.out.size, ((O3.out.far (Nat.lt_succ_self hb) 0 _).far (Nat.lt_succ_self hb) 1 _).mono (by have := HS.out.2; omega)⟩
end Go.Proofs.Ytmamhinpkioogaa
