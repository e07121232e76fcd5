/-
  Arguments that are cells of a page, and slices of them, at a plain seat.
-/
import Derived.Test.YtmamhinpkioogaaLawM
import Derived.Test.YtmamhinpkioogaaLaidM
import Derived.Test.YtmamhinpkioogaaPgM
import Derived.Deep.Slices
import Derived.Lib.SmallJoins
namespace Go.Proofs.Ytmamhinpkioogaa
open Go.ChangeShapes Go.WideShapes Go.ChangeAt Go.RowKit

section
variable {H : Type} {enc : TypeId × Value → H} {W : World}
/-- What a slice of bytes reads as. -/
def BytesD (d : DataW H) (l : List UInt8) : Prop := (d = .nil ∧ l = []) ∨ ∃ elems spare, d = .slice elems spare ∧ elems.length = l.length
set_option maxRecDepth 100000 in
theorem bytes_open {n : Nat} {cs : List Value} {y : DataW H × List MemPlace} (hn : DataW.trod enc Try.prog W 0 (fun _ => true) true n 28 cs = some y) :
    ∃ A c l, cs = [.slice A l.length c] ∧ l.length ≤ c ∧ Rd W A l ∧ BytesD y.1 l := by
  rcases open_ints Try.underlying28 Try.underlying5 (by kernel_rfl) hn with ⟨hc, hx⟩ | ⟨a, len, cap, zs, hc, _, hlc, _, hz, hx, hcell, hwf⟩
  · subst hx
    exact ⟨none, 0, [], hc, Nat.le_refl _, Rd.nil _ _, .inl ⟨rfl, rfl⟩⟩
  · subst hx
    simp only [if_true] at hz
    have hlen : ((zs.take len).map b8).length = len := by simp; omega
    refine ⟨some a, cap, (zs.take len).map b8, by rw [hlen]; exact hc, by rw [hlen]; exact hlc, fun hn0 => ?_, .inr ⟨_, _, rfl, ?_⟩⟩
    · have hp : 0 < zs.length := by
        have : len ≠ 0 := by intro e; apply hn0; apply List.length_eq_zero_iff.1; rw [hlen, e]
        omega
      obtain ⟨b, off, rfl, hcl⟩ := ints_at hcell hp
      refine ⟨b, off, rfl, fun j u hu => ?_⟩
      have hj := (List.getElem?_eq_some_iff.1 hu).1
      rw [hlen] at hj
      rw [hcl j (by omega)]
      rw [List.getElem?_map, List.getElem?_take_of_lt hj, List.getElem?_eq_getElem (by omega)] at hu
      have hu' : b8 zs[j] = u := by simpa using hu
      have hw := bounds_u8 (hwf zs[j] (List.getElem_mem _))
      rw [← hu', b8_toNat hw.1 (by omega), List.getD_eq_getElem?_getD, List.getElem?_eq_getElem (by omega)]
      rfl
    · rw [hlen]; simp [lits]; omega
/-- What a cell reads as. -/
def CellD (d : DataW H) (x : Cl) : Prop := ∃ d1 d2, d = .agg [d1, d2] ∧ BytesD d1 x.1 ∧ BytesD d2 x.2
set_option maxRecDepth 100000 in
theorem cell_open {n : Nat} {cs : List Value} {y : DataW H × List MemPlace} (h : DataW.trod enc Try.prog W 0 (fun _ => true) true n 40 cs = some y) :
    ∃ A1 c1 A2 c2, ∃ x : Cl, cs = [.slice A1 x.1.length c1, .slice A2 x.2.length c2] ∧ x.1.length ≤ c1 ∧ x.2.length ≤ c2 ∧ Rd W A1 x.1 ∧ Rd W A2 x.2 ∧ CellD y.1 x := by
  obtain ⟨xs, m, rfl, rfl, hl, hxl, hall⟩ := DataW.trod_struct Try.underlying40 h
  have hcl : cs.length = 2 := hl.trans (by kernel_rfl)
  match cs, hcl with
  | [v1, v2], _ =>
    have h0 := hall 0 _ rfl
    have h1 := hall 1 _ rfl
    have hx2 : xs.length = 2 := hxl
    match xs, hx2 with
    | [y0, y1], _ =>
      have e0 : DataW.trod enc Try.prog W 0 (fun _ => true) true m 28 [v1] = some y0 := h0
      have e1 : DataW.trod enc Try.prog W 0 (fun _ => true) true m 28 [v2] = some y1 := h1
      obtain ⟨A1, c1, l1, g1, k1, r1, b1⟩ := bytes_open e0
      obtain ⟨A2, c2, l2, g2, k2, r2, b2⟩ := bytes_open e1
      injection g1 with g1
      injection g2 with g2
      exact ⟨A1, c1, A2, c2, (l1, l2), by rw [g1, g2], k1, k2, r1, r2, y0.1, y1.1, rfl, b1, b2⟩
/-- What a slice of cells reads as. -/
def CellsDt (d : DataW H) (L : List Cl) : Prop := (d = .nil ∧ L = []) ∨ ∃ elems spare, d = .slice elems spare ∧ elems.length = L.length ∧ ∀ (j : Nat) (x : Cl), L[j]? = some x → ∃ e, elems[j]? = some e ∧ CellD e x
set_option maxRecDepth 100000 in
theorem cells_open {n : Nat} {cs : List Value} {y : DataW H × List MemPlace} (hn : DataW.trod enc Try.prog W 0 (fun _ => true) true n 22 cs = some y) :
    ∃ A c L, cs = [.slice A L.length c] ∧ L.length ≤ c ∧ RdC W A L ∧ CellsDt y.1 L := by
  rcases Deep.open_slice Try.underlying22 hn with ⟨hc, rfl⟩ | ⟨a, len, cap, m, n', D, Pl, hc, _, hlc, _, hm, rfl, hx⟩
  · exact ⟨none, 0, [], hc, Nat.le_refl _, RdC.nil _ _, .inl ⟨rfl, rfl⟩⟩
  · simp only [if_true] at hm
    subst hm
    have hce : Try.prog.cellsOf 40 = 2 := by kernel_rfl
    rw [hce] at hx
    have each : ∀ i, i < m → ∃ x : Cl, (∃ A1 c1 A2 c2, W.cell? (a.add (i * 2)) = some (.slice A1 x.1.length c1) ∧ W.cell? ((a.add (i * 2)).add 1) = some (.slice A2 x.2.length c2) ∧ x.1.length ≤ c1 ∧ x.2.length ≤ c2 ∧ Rd W A1 x.1 ∧ Rd W A2 x.2) ∧ CellD (D i) x := fun i hi => by
      obtain ⟨cs', h1, h2⟩ := hx i hi
      obtain ⟨A1, c1, A2, c2, x, rfl, k1, k2, r1, r2, hd⟩ := cell_open h2
      obtain ⟨_, _, hcc⟩ := World.cells?_some h1
      have q0 := hcc 0 (by decide)
      have q1 := hcc 1 (by decide)
      refine ⟨x, ⟨A1, c1, A2, c2, ?_, q1, k1, k2, r1, r2⟩, hd⟩
      have e0 : (a.add (i * 2)).add 0 = a.add (i * 2) := by unfold Addr.add; simp
      rw [e0] at q0
      exact q0
    obtain ⟨X, hX⟩ := Deep.choose_lt each
    have hlen : ((List.range len).map X).length = len := by simp
    refine ⟨some a, m, (List.range len).map X, by rw [hlen]; exact hc, by rw [hlen]; exact hlc, fun hn0 => ?_, .inr ⟨_, _, rfl, by simp, fun j x hj => ?_⟩⟩
    · have hp : 0 < len := by
        rcases Nat.eq_zero_or_pos len with h | h
        · exfalso; apply hn0; rw [h]; rfl
        · exact h
      obtain ⟨b, off, spot⟩ := a
      have hspot : spot = none := by
        obtain ⟨⟨A1, c1, A2, c2, g1, _⟩, _⟩ := hX 0 (by omega)
        simpa [Addr.add] using World.cell?_spot g1
      subst hspot
      refine ⟨b, off, rfl, fun j x hj => ?_⟩
      have hjl := (List.getElem?_eq_some_iff.1 hj).1
      rw [hlen] at hjl
      rw [List.getElem?_map, List.getElem?_range hjl] at hj
      have hj2 : X j = x := by simpa using hj
      obtain ⟨⟨A1, c1, A2, c2, g1, g2, g3⟩, _⟩ := hX j (by omega)
      rw [hj2] at g1 g2 g3
      rw [add_flat] at g1 g2
      rw [add_flat] at g2
      exact ⟨A1, c1, A2, c2, g1, g2, g3⟩
    · have hjl := (List.getElem?_eq_some_iff.1 hj).1
      rw [hlen] at hjl
      rw [List.getElem?_map, List.getElem?_range hjl] at hj
      have hj2 : X j = x := by simpa using hj
      refine ⟨D j, by rw [List.getElem?_map, List.getElem?_range hjl]; rfl, ?_⟩
      rw [← hj2]
      exact (hX j (by omega)).2
theorem weights_all {P : Program} {e : TypeId} : ∀ {l : List (DataW H)} {d : DataW H}, d ∈ l → ∀ n ∈ d.weights P e, n ∈ DataW.weightsAll P e l
  | [], _, h, _, _ => by cases h
  | x :: r, d, h, n, hn => by
    simp only [DataW.weightsAll, List.mem_append]
    rcases List.mem_cons.1 h with rfl | h
    · exact .inl hn
    · exact .inr (weights_all h n hn)
theorem bytes_small {d : DataW H} {l : List UInt8} (h : BytesD d l) (hw : ∀ n ∈ d.weights Try.prog 28, n ≤ reachBytes) : l.length ≤ 140737488351232 := by
  rcases h with ⟨_, rfl⟩ | ⟨elems, spare, rfl, hl⟩
  · exact Nat.zero_le _
  · have h1 := hw ((elems.length + spare.length) * Try.prog.bytesOf 5) (by simp [DataW.weights, Try.underlying28])
    have e : Try.prog.bytesOf 5 = 1 := by kernel_rfl
    rw [e] at h1
    unfold reachBytes at h1
    omega
theorem cell_small {d : DataW H} {x : Cl} (h : CellD d x) (hw : ∀ n ∈ d.weights Try.prog 40, n ≤ reachBytes) : x.1.length ≤ 140737488351232 ∧ x.2.length ≤ 140737488351232 := by
  obtain ⟨d1, d2, rfl, b1, b2⟩ := h
  have e : DataW.weights Try.prog 40 (.agg [d1, d2] : DataW H) = d1.weights Try.prog 28 ++ (d2.weights Try.prog 28 ++ []) := by
    simp [DataW.weights, Try.underlying40, DataW.weightsEach]
  rw [e] at hw
  exact ⟨bytes_small b1 (fun n hn => hw n (List.mem_append_left _ hn)), bytes_small b2 (fun n hn => hw n (List.mem_append_right _ (List.mem_append_left _ hn)))⟩
theorem cells_small {d : DataW H} {L : List Cl} (h : CellsDt d L) (hw : ∀ n ∈ d.weights Try.prog 22, n ≤ reachBytes) : Small L := by
  rcases h with ⟨_, rfl⟩ | ⟨elems, spare, rfl, hl, hall⟩
  · exact fun x hx => by cases hx
  · intro x hx
    obtain ⟨j, hj⟩ := List.mem_iff_getElem?.1 hx
    obtain ⟨e, he, hd⟩ := hall j x hj
    refine cell_small hd (fun n hn => hw n ?_)
    simp only [DataW.weights, Try.underlying22]
    exact List.mem_cons_of_mem _ (List.mem_append_left _ (weights_all (List.mem_of_getElem? he) n hn))
theorem arg_small {P : Program} {ts : List TypeId} {ds : List (DataW H)} {j : Nat} {t : TypeId} {d : DataW H} (hz : (DataW.weightsEach P ts ds).all (· ≤ reachBytes) = true) (ht : ts[j]? = some t) (hd : ds[j]? = some d) : ∀ n ∈ d.weights P t, n ≤ reachBytes := fun n hn => by
  have := List.all_eq_true.1 hz _ (DataW.weights_mem_each ht hd n hn)
  simpa using this
/-- An argument that is a slice of cells. -/
theorem open_cells {base : Nat} {v : Value} {d : DataW H} {ps : List MemPlace} (hval : Value.okWide Try.prog W .any base 22 v)
    (h : DataW.Trod enc Try.prog W 0 (fun _ => true) true 22 v d ps) : ∃ A c L, v = .slice A L.length c ∧ L.length ≤ c ∧ RdC W A L ∧ CellsDt d L := by
  obtain ⟨a0, len, cap, rfl⟩ := okWide_slice Try.underlying22 hval
  obtain ⟨n, hn⟩ := h
  obtain ⟨A, c, L, hc, h1, h2, h3⟩ := cells_open hn
  have e : (Value.slice a0 len cap) = .slice A L.length c := by
    have : [Value.slice a0 len cap] = [Value.slice A L.length c] := hc
    injection this
  exact ⟨A, c, L, e, h1, h2, h3⟩
/-- An argument that is a cell. -/
theorem open_cell {base : Nat} {v : Value} {d : DataW H} {ps : List MemPlace} (hval : Value.okWide Try.prog W .any base 40 v)
    (h : DataW.Trod enc Try.prog W 0 (fun _ => true) true 40 v d ps) : ∃ A1 c1 A2 c2, ∃ x : Cl, v = .agg #[.slice A1 x.1.length c1, .slice A2 x.2.length c2] ∧ x.1.length ≤ c1 ∧ x.2.length ≤ c2 ∧ Rd W A1 x.1 ∧ Rd W A2 x.2 ∧ CellD d x := by
  obtain ⟨v0, v1, y0, y1, n, rfl, rfl, _, h0, h1⟩ := Joins.open_agg2 Try.underlying40 (by kernel_rfl) (by kernel_rfl) hval h
  obtain ⟨A1, c1, l1, g1, k1, r1, b1⟩ := bytes_open h0
  obtain ⟨A2, c2, l2, g2, k2, r2, b2⟩ := bytes_open h1
  injection g1 with g1
  injection g2 with g2
  subst g1 g2
  exact ⟨A1, c1, A2, c2, (l1, l2), rfl, k1, k2, r1, r2, _, _, rfl, b1, b2⟩
/-- So many cells there may be. -/
theorem cells_many {d : DataW H} {L : List Cl} (h : CellsDt d L) (hw : ∀ n ∈ d.weights Try.prog 22, n ≤ reachBytes) : L.length ≤ 4398046511104 := by
  rcases h with ⟨_, rfl⟩ | ⟨elems, spare, rfl, hl, _⟩
  · exact Nat.zero_le _
  · have h1 := hw ((elems.length + spare.length) * Try.prog.bytesOf 40) (by simp [DataW.weights, Try.underlying22])
    have e : Try.prog.bytesOf 40 = 48 := by kernel_rfl
    rw [e] at h1
    unfold reachBytes at h1
    omega
end
end Go.Proofs.Ytmamhinpkioogaa
