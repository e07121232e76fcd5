/-
  An argument that is a record of the log.
-/
import Derived.Test.YthdahgekodcloaaDoorLaw
import Derived.Test.YthdahgekodcloaaDoorRcP
import Derived.Deep.Slices
import Derived.Lib.SmallJoins
import Derived.OpenShut
namespace Go.Proofs.YthdahgekodcloaaDoor
open Go.ChangeShapes Go.WideShapes Go.ChangeAt Go.RowKit

section
variable {H : Type} {enc : TypeId × Value → H} {W : World}
/-- What a slice of bytes reads as. -/
def BytesD (d : DataW H) (l : List UInt8) : Prop := (d = .nil ∧ l = []) ∨ ∃ elems spare, d = .slice elems spare ∧ elems.length = l.length
set_option maxRecDepth 100000 in
theorem bytes_open {n : Nat} {cs : List Value} {y : DataW H × List MemPlace} (hn : DataW.trod enc Tryd.prog W 0 (fun _ => true) true n 23 cs = some y) :
    ∃ A c l, cs = [.slice A l.length c] ∧ l.length ≤ c ∧ Rd W A l ∧ BytesD y.1 l := by
  rcases open_ints Tryd.underlying23 Tryd.underlying5 (by kernel_rfl) hn with ⟨hc, hx⟩ | ⟨a, len, cap, zs, hc, _, hlc, _, hz, hx, hcell, hwf⟩
  · subst hx
    exact ⟨none, 0, [], hc, Nat.le_refl _, Rd.nil _ _, .inl ⟨rfl, rfl⟩⟩
  · subst hx
    simp only [if_true] at hz
    have hlen : ((zs.take len).map b8).length = len := by simp; omega
    refine ⟨some a, cap, (zs.take len).map b8, by rw [hlen]; exact hc, by rw [hlen]; exact hlc, fun hn0 => ?_, .inr ⟨_, _, rfl, ?_⟩⟩
    · have hp : 0 < zs.length := by
        have : len ≠ 0 := by intro e; apply hn0; apply List.length_eq_zero_iff.1; rw [hlen, e]
        omega
      obtain ⟨b, off, rfl, hcl⟩ := ints_at hcell hp
      refine ⟨b, off, rfl, fun j u hu => ?_⟩
      have hj := (List.getElem?_eq_some_iff.1 hu).1
      rw [hlen] at hj
      rw [hcl j (by omega)]
      rw [List.getElem?_map, List.getElem?_take_of_lt hj, List.getElem?_eq_getElem (by omega)] at hu
      have hu' : b8 zs[j] = u := by simpa using hu
      have hw := bounds_u8 (hwf zs[j] (List.getElem_mem _))
      rw [← hu', b8_toNat hw.1 (by omega), List.getD_eq_getElem?_getD, List.getElem?_eq_getElem (by omega)]
      rfl
    · rw [hlen]; simp [lits]; omega
set_option maxRecDepth 100000 in
theorem dirt_open {n : Nat} {cs : List Value} {y : DataW H × List MemPlace} (h : DataW.trod enc Tryd.prog W 0 (fun _ => true) true n 47 cs = some y) :
    ∃ e : Int × Int, cs = [.int .i64 e.1, .int .u64 e.2] ∧ (-9223372036854775808 ≤ e.1 ∧ e.1 < 9223372036854775808) ∧ 0 ≤ e.2 ∧ e.2 < 18446744073709551616 := by
  obtain ⟨xs, m, rfl, rfl, hl, hxl, hall⟩ := DataW.trod_struct Tryd.underlying47 h
  have hcl : cs.length = 2 := hl.trans (by kernel_rfl)
  match cs, hcl with
  | [v1, v2], _ =>
    have h0 := hall 0 _ rfl
    have h1 := hall 1 _ rfl
    have hx2 : xs.length = 2 := hxl
    match xs, hx2 with
    | [y0, y1], _ =>
      have e0 : DataW.trod enc Tryd.prog W 0 (fun _ => true) true m 3 [v1] = some y0 := h0
      have e1 : DataW.trod enc Tryd.prog W 0 (fun _ => true) true m 22 [v2] = some y1 := h1
      obtain ⟨a, ha, _, wa⟩ := DataW.trod_int Tryd.underlying3 e0
      obtain ⟨b, hb, _, wb⟩ := DataW.trod_int Tryd.underlying22 e1
      injection ha with ha
      injection hb with hb
      have i1 := bounds_i64 wa
      have i2 := bounds_u64 wb
      exact ⟨(a, b), by rw [ha, hb], ⟨i1.1, by omega⟩, i2.1, by omega⟩
/-- What a slice of dirty pages reads as. -/
def DirtD (d : DataW H) (L : List (Int × Int)) : Prop := (d = .nil ∧ L = []) ∨ ∃ elems spare, d = .slice elems spare ∧ elems.length = L.length
set_option maxRecDepth 100000 in
theorem dirts_open {n : Nat} {cs : List Value} {y : DataW H × List MemPlace} (hn : DataW.trod enc Tryd.prog W 0 (fun _ => true) true n 24 cs = some y) :
    ∃ A c L, cs = [.slice A L.length c] ∧ L.length ≤ c ∧ RdD W A L ∧ (∀ e ∈ L, (-9223372036854775808 ≤ e.1 ∧ e.1 < 9223372036854775808) ∧ 0 ≤ e.2 ∧ e.2 < 18446744073709551616) ∧ DirtD y.1 L := by
  rcases Deep.open_slice Tryd.underlying24 hn with ⟨hc, rfl⟩ | ⟨a, len, cap, m, n', D, Pl, hc, _, hlc, _, hm, rfl, hx⟩
  · exact ⟨none, 0, [], hc, Nat.le_refl _, RdD.nil _ _, fun e h => (by cases h), .inl ⟨rfl, rfl⟩⟩
  · simp only [if_true] at hm
    subst hm
    have hce : Tryd.prog.cellsOf 47 = 2 := by kernel_rfl
    rw [hce] at hx
    have each : ∀ i, i < m → ∃ e : Int × Int, (W.cell? (a.add (i * 2)) = some (.int .i64 e.1) ∧ W.cell? ((a.add (i * 2)).add 1) = some (.int .u64 e.2)) ∧ (-9223372036854775808 ≤ e.1 ∧ e.1 < 9223372036854775808) ∧ 0 ≤ e.2 ∧ e.2 < 18446744073709551616 := fun i hi => by
      obtain ⟨cs', h1, h2⟩ := hx i hi
      obtain ⟨e, rfl, r1, r2⟩ := dirt_open h2
      obtain ⟨_, _, hcc⟩ := World.cells?_some h1
      have q0 := hcc 0 (by simp)
      have q1 := hcc 1 (by simp)
      have e0 : (a.add (i * 2)).add 0 = a.add (i * 2) := by unfold Addr.add; simp
      rw [e0] at q0
      exact ⟨e, ⟨q0, q1⟩, r1, r2⟩
    obtain ⟨X, hX⟩ := Deep.choose_lt each
    have hlen : ((List.range len).map X).length = len := by simp
    have hmem : ∀ j e, ((List.range len).map X)[j]? = some e → j < len ∧ X j = e := fun j e hj => by
      have hjl := (List.getElem?_eq_some_iff.1 hj).1
      rw [hlen] at hjl
      rw [List.getElem?_map, List.getElem?_range hjl] at hj
      exact ⟨hjl, by simpa using hj⟩
    refine ⟨some a, m, (List.range len).map X, by rw [hlen]; exact hc, by rw [hlen]; exact hlc, fun hn0 => ?_, fun e he => ?_, .inr ⟨_, _, rfl, by simp⟩⟩
    · have hp : 0 < len := by
        rcases Nat.eq_zero_or_pos len with h | h
        · exfalso; apply hn0; rw [h]; rfl
        · exact h
      obtain ⟨b, off, spot⟩ := a
      have hspot : spot = none := by
        obtain ⟨⟨g1, _⟩, _⟩ := hX 0 (by omega)
        simpa [Addr.add] using World.cell?_spot g1
      subst hspot
      refine ⟨b, off, rfl, fun j e hj => ?_⟩
      obtain ⟨hjl, hj2⟩ := hmem j e hj
      obtain ⟨⟨g1, g2⟩, _⟩ := hX j (by omega)
      rw [hj2] at g1 g2
      rw [add_flat] at g1 g2
      rw [add_flat] at g2
      exact ⟨g1, g2⟩
    · obtain ⟨j, hj⟩ := List.mem_iff_getElem?.1 he
      obtain ⟨hjl, hj2⟩ := hmem j e hj
      obtain ⟨_, g⟩ := hX j (by omega)
      rw [hj2] at g
      exact g
theorem weights_all {P : Program} {e : TypeId} : ∀ {l : List (DataW H)} {d : DataW H}, d ∈ l → ∀ n ∈ d.weights P e, n ∈ DataW.weightsAll P e l
  | [], _, h, _, _ => by cases h
  | x :: r, d, h, n, hn => by
    simp only [DataW.weightsAll, List.mem_append]
    rcases List.mem_cons.1 h with rfl | h
    · exact .inl hn
    · exact .inr (weights_all h n hn)
theorem bytes_small {d : DataW H} {l : List UInt8} (h : BytesD d l) (hw : ∀ n ∈ d.weights Tryd.prog 23, n ≤ reachBytes) : l.length ≤ 140737488351232 := by
  rcases h with ⟨_, rfl⟩ | ⟨elems, spare, rfl, hl⟩
  · exact Nat.zero_le _
  · have h1 := hw ((elems.length + spare.length) * Tryd.prog.bytesOf 5) (by simp [DataW.weights, Tryd.underlying23])
    have e : Tryd.prog.bytesOf 5 = 1 := by kernel_rfl
    rw [e] at h1
    unfold reachBytes at h1
    omega
theorem arg_small {P : Program} {ts : List TypeId} {ds : List (DataW H)} {j : Nat} {t : TypeId} {d : DataW H} (hz : (DataW.weightsEach P ts ds).all (· ≤ reachBytes) = true) (ht : ts[j]? = some t) (hd : ds[j]? = some d) : ∀ n ∈ d.weights P t, n ≤ reachBytes := fun n hn => by
  have := List.all_eq_true.1 hz _ (DataW.weights_mem_each ht hd n hn)
  simpa using this
/-- What a record's lists read as. -/
def RecD (d : DataW H) (bf af : List UInt8) (L : List (Int × Int)) : Prop := ∃ d0 d1 d2 d3 d4 d5 d6 d7 d8 d9, d = .agg [d0, d1, d2, d3, d4, d5, d6, d7, d8, d9] ∧ BytesD d5 bf ∧ BytesD d6 af ∧ DirtD d8 L
theorem rec_small {d : DataW H} {bf af : List UInt8} {L : List (Int × Int)} (h : RecD d bf af L) (hw : ∀ n ∈ d.weights Tryd.prog 26, n ≤ reachBytes) : bf.length ≤ 140737488351232 ∧ af.length ≤ 140737488351232 ∧ L.length ≤ 140737488351232 := by
  obtain ⟨d0, d1, d2, d3, d4, d5, d6, d7, d8, d9, rfl, b5, b6, b8⟩ := h
  have each : ∀ (j : Nat) (t : TypeId) (e : DataW H), [5, 22, 22, 3, 3, 23, 23, 22, 24, 4][j]? = some t → [d0, d1, d2, d3, d4, d5, d6, d7, d8, d9][j]? = some e → ∀ n ∈ e.weights Tryd.prog t, n ≤ reachBytes := fun j t e ht he n hn => hw n (by
    simp only [DataW.weights, Tryd.underlying26]
    exact DataW.weights_mem_each (ts := [5, 22, 22, 3, 3, 23, 23, 22, 24, 4]) (j := j) ht he n hn)
  refine ⟨bytes_small b5 (each 5 _ _ rfl rfl), bytes_small b6 (each 6 _ _ rfl rfl), ?_⟩
  have h8 := each 8 _ _ rfl rfl
  rcases b8 with ⟨_, rfl⟩ | ⟨elems, spare, rfl, hl⟩
  · exact Nat.zero_le _
  · have h1 := h8 ((elems.length + spare.length) * Tryd.prog.bytesOf 47) (by simp [DataW.weights, Tryd.underlying24])
    have e : Tryd.prog.bytesOf 47 = 16 := by kernel_rfl
    rw [e] at h1
    unfold reachBytes at h1
    omega
set_option maxRecDepth 100000 in
/-- An argument that is a record. -/
theorem open_record {base : Nat} {v : Value} {d : DataW H} {ps : List MemPlace} (hval : Value.okWide Tryd.prog W .any base 26 v)
    (h : DataW.Trod enc Tryd.prog W 0 (fun _ => true) true 26 v d ps) :
    ∃ (k tx pv pg off nx : Int) (A B D : Option Addr) (a b d' : Nat) (bf af : List UInt8) (L : List (Int × Int)) (op : Bool), v = .agg #[.int .u8 k, .int .u64 tx, .int .u64 pv, .int .i64 pg, .int .i64 off, .slice A bf.length a, .slice B af.length b, .int .u64 nx, .slice D L.length d', .bool op] ∧
      Rd W A bf ∧ Rd W B af ∧ RdD W D L ∧ (bf.length ≤ a ∧ af.length ≤ b ∧ L.length ≤ d') ∧ (0 ≤ k ∧ k ≤ 255) ∧ (0 ≤ tx ∧ tx ≤ 18446744073709551615) ∧ (0 ≤ pv ∧ pv ≤ 18446744073709551615) ∧ (-9223372036854775808 ≤ pg ∧ pg ≤ 9223372036854775807) ∧ (-9223372036854775808 ≤ off ∧ off ≤ 9223372036854775807) ∧ (0 ≤ nx ∧ nx ≤ 18446744073709551615) ∧
      (∀ e ∈ L, (-9223372036854775808 ≤ e.1 ∧ e.1 < 9223372036854775808) ∧ 0 ≤ e.2 ∧ e.2 < 18446744073709551616) ∧ RecD d bf af L := by
  obtain ⟨cs, rfl, hsz⟩ := okWide_struct Tryd.underlying26 hval
  obtain ⟨fuel, hf⟩ := h
  obtain ⟨xs, m, _, hxx, hl, hxl, hall⟩ := DataW.trod_struct Tryd.underlying26 hf
  obtain ⟨l⟩ := cs
  have hcl : l.length = 10 := hsz.trans (by kernel_rfl)
  match l, hcl with
  | [v0, v1, v2, v3, v4, v5, v6, v7, v8, v9], _ =>
    have hx2 : xs.length = 10 := hxl
    match xs, hx2 with
    | [y0, y1, y2, y3, y4, y5, y6, y7, y8, y9], _ =>
      simp only [Prod.mk.injEq] at hxx
      have e0 : DataW.trod enc Tryd.prog W 0 (fun _ => true) true m 5 [v0] = some y0 := hall 0 _ rfl
      have e1 : DataW.trod enc Tryd.prog W 0 (fun _ => true) true m 22 [v1] = some y1 := hall 1 _ rfl
      have e2 : DataW.trod enc Tryd.prog W 0 (fun _ => true) true m 22 [v2] = some y2 := hall 2 _ rfl
      have e3 : DataW.trod enc Tryd.prog W 0 (fun _ => true) true m 3 [v3] = some y3 := hall 3 _ rfl
      have e4 : DataW.trod enc Tryd.prog W 0 (fun _ => true) true m 3 [v4] = some y4 := hall 4 _ rfl
      have e5 : DataW.trod enc Tryd.prog W 0 (fun _ => true) true m 23 [v5] = some y5 := hall 5 _ rfl
      have e6 : DataW.trod enc Tryd.prog W 0 (fun _ => true) true m 23 [v6] = some y6 := hall 6 _ rfl
      have e7 : DataW.trod enc Tryd.prog W 0 (fun _ => true) true m 22 [v7] = some y7 := hall 7 _ rfl
      have e8 : DataW.trod enc Tryd.prog W 0 (fun _ => true) true m 24 [v8] = some y8 := hall 8 _ rfl
      have e9 : DataW.trod enc Tryd.prog W 0 (fun _ => true) true m 4 [v9] = some y9 := hall 9 _ rfl
      obtain ⟨k, h0, _, w0⟩ := DataW.trod_int Tryd.underlying5 e0
      obtain ⟨tx, h1, _, w1⟩ := DataW.trod_int Tryd.underlying22 e1
      obtain ⟨pv, h2, _, w2⟩ := DataW.trod_int Tryd.underlying22 e2
      obtain ⟨pg, h3, _, w3⟩ := DataW.trod_int Tryd.underlying3 e3
      obtain ⟨off, h4, _, w4⟩ := DataW.trod_int Tryd.underlying3 e4
      obtain ⟨A, a, bf, h5, c5, r5, b5⟩ := bytes_open e5
      obtain ⟨B, b, af, h6, c6, r6, b6⟩ := bytes_open e6
      obtain ⟨nx, h7, _, w7⟩ := DataW.trod_int Tryd.underlying22 e7
      obtain ⟨D, d', L, h8, c8, r8, o8, b8⟩ := dirts_open e8
      obtain ⟨op, h9, _⟩ := DataW.trod_bool Tryd.underlying4 e9
      injection h0 with h0
      injection h1 with h1
      injection h2 with h2
      injection h3 with h3
      injection h4 with h4
      injection h5 with h5
      injection h6 with h6
      injection h7 with h7
      injection h8 with h8
      injection h9 with h9
      subst h0 h1 h2 h3 h4 h5 h6 h7 h8 h9
      exact ⟨k, tx, pv, pg, off, nx, A, B, D, a, b, d', bf, af, L, op, rfl, r5, r6, r8, ⟨c5, c6, c8⟩, bounds_u8 w0, bounds_u64 w1, bounds_u64 w2, bounds_i64 w3, bounds_i64 w4, bounds_u64 w7, o8, _, _, _, _, _, _, _, _, _, _, hxx.1, b5, b6, b8⟩
end
end Go.Proofs.YthdahgekodcloaaDoor
