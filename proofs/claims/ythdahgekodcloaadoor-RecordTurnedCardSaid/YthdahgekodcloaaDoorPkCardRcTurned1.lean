/-
  Records of the log: plain, and how they lie in memory.
  An argument that is a record of the log.
  Which records there are: the program's Form.
  The dirty pages of a record: checkFits.
  Which records there are: the program's Form.
  Numbers as eight bytes: the program's and the document's.
  Numbers and sums of records, put behind bytes of the call's own.
  bytes.Clone.
  The reader of records: take, number.
  The reader of records: the dirty pages.
-/
import Derived.IntWalk
import Derived.Deep.Cut
import Derived.Deep.CutRange
import Derived.Great.BuildSlice
import Derived.Laws.OwnMore
import Derived.Maps.AppendAt
import Derived.BigQuiet
import Derived.Deep.QuietTactic
import Derived.Deep.Slices
import Derived.Lib.SmallJoins
import Derived.OpenShut
import Derived.Laws.Cover3
import Derived.Deep.RegionHeld3
import Derived.Deep.RegionLaw
import Derived.Test.YthdahgekodcloaaDoorPkCardRcTurned0

namespace Go.Proofs.YthdahgekodcloaaDoor
open Go.RowKit

/-- A record. -/
structure Rec where
  k : Int
  tx : Int
  pv : Int
  pg : Int
  off : Int
  bf : List UInt8
  af : List UInt8
  nx : Int
  dl : List (Int × Int)
  op : Bool
/-- Numbers are within their kinds. -/
structure Rec.Ok (r : Rec) : Prop where
  k : 0 ≤ r.k ∧ r.k < 256
  tx : 0 ≤ r.tx ∧ r.tx < 18446744073709551616
  pv : 0 ≤ r.pv ∧ r.pv < 18446744073709551616
  pg : -9223372036854775808 ≤ r.pg ∧ r.pg < 9223372036854775808
  off : -9223372036854775808 ≤ r.off ∧ r.off < 9223372036854775808
  nx : 0 ≤ r.nx ∧ r.nx < 18446744073709551616
  dl : ∀ d ∈ r.dl, (-9223372036854775808 ≤ d.1 ∧ d.1 < 9223372036854775808) ∧ 0 ≤ d.2 ∧ d.2 < 18446744073709551616
  bn : r.bf.length ≤ 140737488351232
  an : r.af.length ≤ 140737488351232
  dn : r.dl.length ≤ 140737488351232
def hok (k : Int) : Bool := decide (1 ≤ k) && decide (k ≤ 6)
def hpv (k : Int) : Bool := decide (2 ≤ k) && decide (k ≤ 6)
def hch (k : Int) : Bool := (k == 2) || (k == 3)
def hbf (k : Int) : Bool := k == 2
def hnx (k : Int) : Bool := k == 3
def hck (k : Int) : Bool := k == 6
def isPg (n : Int) : Bool := decide (0 ≤ n) && decide (n < 4096)
def chgB (r : Rec) (c b : Bool) : Bool := if c then isPg r.pg && (decide (1 ≤ r.af.length) && ((r.bf.length == if b then r.af.length else 0) && (decide (0 ≤ r.off) && decide (r.off ≤ 512 - (r.af.length : Int))))) else (r.pg == 0) && ((r.off == 0) && ((r.af.length == 0) && (r.bf.length == 0)))
/-- The dirty pages rise. -/
def risB : Int → List (Int × Int) → Bool
  | _, [] => true
  | last, d :: l => decide (last < d.1) && (decide (d.1 < 4096) && risB d.1 l)
def chkB (r : Rec) (x : Bool) : Bool := if x then decide (r.dl.length ≤ 64) && risB (-1) r.dl else (r.dl.length == 0) && !r.op
def formR (r : Rec) : Bool := hok r.k && ((hpv r.k || (r.pv == 0)) && ((hnx r.k || (r.nx == 0)) && (chgB r (hch r.k) (hbf r.k) && chkB r (hck r.k))))
/-- The slice at A reads as these dirty pages. -/
def RdD (w : World) (A : Option Addr) (L : List (Int × Int)) : Prop :=
  L ≠ [] → ∃ b off, A = some ⟨b, off, none⟩ ∧ ∀ j d, L[j]? = some d → w.cell? ⟨b, off + j * 2, none⟩ = some (.int .i64 d.1) ∧ w.cell? ⟨b, off + j * 2 + 1, none⟩ = some (.int .u64 d.2)
theorem RdD.nil (w : World) (A : Option Addr) : RdD w A [] := fun h => absurd rfl h
theorem RdD.keep {w w' : World} {A : Option Addr} {L : List (Int × Int)} (h : RdD w A L) (hx : Keeps w w') : RdD w' A L := fun hn => by
  obtain ⟨b, off, hA, hc⟩ := h hn
  exact ⟨b, off, hA, fun j d hj => ⟨hx.cell (hc j d hj).1, hx.cell (hc j d hj).2⟩⟩
theorem RdD.ext {w w' : World} {A : Option Addr} {L : List (Int × Int)} (h : RdD w A L) (hx : Ext w w') : RdD w' A L := h.keep hx.keeps
theorem RdD.at {w : World} {A : Option Addr} {L : List (Int × Int)} (h : RdD w A L) {j : Nat} {d : Int × Int} (hj : L[j]? = some d) : ∃ b off, A = some ⟨b, off, none⟩ ∧ w.cell? ⟨b, off + j * 2, none⟩ = some (.int .i64 d.1) ∧ w.cell? ⟨b, off + j * 2 + 1, none⟩ = some (.int .u64 d.2) := by
  obtain ⟨b, off, hA, hc⟩ := h (by intro e; rw [e] at hj; cases hj)
  exact ⟨b, off, hA, (hc j d hj).1, (hc j d hj).2⟩
/-- Where a record's lists lie, and how much room they have. -/
structure Pls where
  A : Option Addr
  a : Nat
  B : Option Addr
  b : Nat
  D : Option Addr
  d : Nat
/-- A record's ten values. -/
def rcV (r : Rec) (t : Pls) : List Value := [.int .u8 r.k, .int .u64 r.tx, .int .u64 r.pv, .int .i64 r.pg, .int .i64 r.off, .slice t.A r.bf.length t.a, .slice t.B r.af.length t.b, .int .u64 r.nx, .slice t.D r.dl.length t.d, .bool r.op]
/-- A record's lists lie there. -/
structure RcM (w : World) (r : Rec) (t : Pls) : Prop where
  ok : r.Ok
  bf : Rd w t.A r.bf
  af : Rd w t.B r.af
  dl : RdD w t.D r.dl
  bc : r.bf.length ≤ t.a
  ac : r.af.length ≤ t.b
  dc : r.dl.length ≤ t.d
theorem RcM.keep {w w' : World} {r : Rec} {t : Pls} (h : RcM w r t) (hx : Keeps w w') : RcM w' r t := ⟨h.ok, h.bf.keep hx, h.af.keep hx, h.dl.keep hx, h.bc, h.ac, h.dc⟩
theorem RcM.ext {w w' : World} {r : Rec} {t : Pls} (h : RcM w r t) (hx : Ext w w') : RcM w' r t := h.keep hx.keeps
/-- A value of a bool, in a grown world. -/
def RetB (w : World) (b : Bool) (e : Ending) (w' : World) : Prop := e = .returned (.bool b) ∧ Ext w w'
end Go.Proofs.YthdahgekodcloaaDoor
namespace Go.Proofs.YthdahgekodcloaaDoor
open Go.ChangeShapes Go.WideShapes Go.ChangeAt Go.RowKit

section
variable {H : Type} {enc : TypeId × Value → H} {W : World}
/-- What a slice of bytes reads as. -/
def BytesD (d : DataW H) (l : List UInt8) : Prop := (d = .nil ∧ l = []) ∨ ∃ elems spare, d = .slice elems spare ∧ elems.length = l.length
set_option maxRecDepth 100000 in
theorem bytes_open {n : Nat} {cs : List Value} {y : DataW H × List MemPlace} (hn : DataW.trod enc Tryd.prog W 0 (fun _ => true) true n 23 cs = some y) :
    ∃ A c l, cs = [.slice A l.length c] ∧ l.length ≤ c ∧ Rd W A l ∧ BytesD y.1 l := by
  rcases open_ints Tryd.underlying23 Tryd.underlying5 (by kernel_rfl) hn with ⟨hc, hx⟩ | ⟨a, len, cap, zs, hc, _, hlc, _, hz, hx, hcell, hwf⟩
  · subst hx
    exact ⟨none, 0, [], hc, Nat.le_refl _, Rd.nil _ _, .inl ⟨rfl, rfl⟩⟩
  · subst hx
    simp only [if_true] at hz
    have hlen : ((zs.take len).map b8).length = len := by simp; omega
    refine ⟨some a, cap, (zs.take len).map b8, by rw [hlen]; exact hc, by rw [hlen]; exact hlc, fun hn0 => ?_, .inr ⟨_, _, rfl, ?_⟩⟩
    · have hp : 0 < zs.length := by
        have : len ≠ 0 := by intro e; apply hn0; apply List.length_eq_zero_iff.1; rw [hlen, e]
        omega
      obtain ⟨b, off, rfl, hcl⟩ := ints_at hcell hp
      refine ⟨b, off, rfl, fun j u hu => ?_⟩
      have hj := (List.getElem?_eq_some_iff.1 hu).1
      rw [hlen] at hj
      rw [hcl j (by omega)]
      rw [List.getElem?_map, List.getElem?_take_of_lt hj, List.getElem?_eq_getElem (by omega)] at hu
      have hu' : b8 zs[j] = u := by simpa using hu
      have hw := bounds_u8 (hwf zs[j] (List.getElem_mem _))
      rw [← hu', b8_toNat hw.1 (by omega), List.getD_eq_getElem?_getD, List.getElem?_eq_getElem (by omega)]
      rfl
    · rw [hlen]; simp [lits]; omega
set_option maxRecDepth 100000 in
theorem dirt_open {n : Nat} {cs : List Value} {y : DataW H × List MemPlace} (h : DataW.trod enc Tryd.prog W 0 (fun _ => true) true n 47 cs = some y) :
    ∃ e : Int × Int, cs = [.int .i64 e.1, .int .u64 e.2] ∧ (-9223372036854775808 ≤ e.1 ∧ e.1 < 9223372036854775808) ∧ 0 ≤ e.2 ∧ e.2 < 18446744073709551616 := by
  obtain ⟨xs, m, rfl, rfl, hl, hxl, hall⟩ := DataW.trod_struct Tryd.underlying47 h
  have hcl : cs.length = 2 := hl.trans (by kernel_rfl)
  match cs, hcl with
  | [v1, v2], _ =>
    have h0 := hall 0 _ rfl
    have h1 := hall 1 _ rfl
    have hx2 : xs.length = 2 := hxl
    match xs, hx2 with
    | [y0, y1], _ =>
      have e0 : DataW.trod enc Tryd.prog W 0 (fun _ => true) true m 3 [v1] = some y0 := h0
      have e1 : DataW.trod enc Tryd.prog W 0 (fun _ => true) true m 22 [v2] = some y1 := h1
      obtain ⟨a, ha, _, wa⟩ := DataW.trod_int Tryd.underlying3 e0
      obtain ⟨b, hb, _, wb⟩ := DataW.trod_int Tryd.underlying22 e1
      injection ha with ha
      injection hb with hb
      have i1 := bounds_i64 wa
      have i2 := bounds_u64 wb
      exact ⟨(a, b), by rw [ha, hb], ⟨i1.1, by omega⟩, i2.1, by omega⟩
/-- What a slice of dirty pages reads as. -/
def DirtD (d : DataW H) (L : List (Int × Int)) : Prop := (d = .nil ∧ L = []) ∨ ∃ elems spare, d = .slice elems spare ∧ elems.length = L.length
set_option maxRecDepth 100000 in
theorem dirts_open {n : Nat} {cs : List Value} {y : DataW H × List MemPlace} (hn : DataW.trod enc Tryd.prog W 0 (fun _ => true) true n 24 cs = some y) :
    ∃ A c L, cs = [.slice A L.length c] ∧ L.length ≤ c ∧ RdD W A L ∧ (∀ e ∈ L, (-9223372036854775808 ≤ e.1 ∧ e.1 < 9223372036854775808) ∧ 0 ≤ e.2 ∧ e.2 < 18446744073709551616) ∧ DirtD y.1 L := by
  rcases Deep.open_slice Tryd.underlying24 hn with ⟨hc, rfl⟩ | ⟨a, len, cap, m, n', D, Pl, hc, _, hlc, _, hm, rfl, hx⟩
  · exact ⟨none, 0, [], hc, Nat.le_refl _, RdD.nil _ _, fun e h => (by cases h), .inl ⟨rfl, rfl⟩⟩
  · simp only [if_true] at hm
    subst hm
    have hce : Tryd.prog.cellsOf 47 = 2 := by kernel_rfl
    rw [hce] at hx
    have each : ∀ i, i < m → ∃ e : Int × Int, (W.cell? (a.add (i * 2)) = some (.int .i64 e.1) ∧ W.cell? ((a.add (i * 2)).add 1) = some (.int .u64 e.2)) ∧ (-9223372036854775808 ≤ e.1 ∧ e.1 < 9223372036854775808) ∧ 0 ≤ e.2 ∧ e.2 < 18446744073709551616 := fun i hi => by
      obtain ⟨cs', h1, h2⟩ := hx i hi
      obtain ⟨e, rfl, r1, r2⟩ := dirt_open h2
      obtain ⟨_, _, hcc⟩ := World.cells?_some h1
      have q0 := hcc 0 (by simp)
      have q1 := hcc 1 (by simp)
      have e0 : (a.add (i * 2)).add 0 = a.add (i * 2) := by unfold Addr.add; simp
      rw [e0] at q0
      exact ⟨e, ⟨q0, q1⟩, r1, r2⟩
    obtain ⟨X, hX⟩ := Deep.choose_lt each
    have hlen : ((List.range len).map X).length = len := by simp
    have hmem : ∀ j e, ((List.range len).map X)[j]? = some e → j < len ∧ X j = e := fun j e hj => by
      have hjl := (List.getElem?_eq_some_iff.1 hj).1
      rw [hlen] at hjl
      rw [List.getElem?_map, List.getElem?_range hjl] at hj
      exact ⟨hjl, by simpa using hj⟩
    refine ⟨some a, m, (List.range len).map X, by rw [hlen]; exact hc, by rw [hlen]; exact hlc, fun hn0 => ?_, fun e he => ?_, .inr ⟨_, _, rfl, by simp⟩⟩
    · have hp : 0 < len := by
        rcases Nat.eq_zero_or_pos len with h | h
        · exfalso; apply hn0; rw [h]; rfl
        · exact h
      obtain ⟨b, off, spot⟩ := a
      have hspot : spot = none := by
        obtain ⟨⟨g1, _⟩, _⟩ := hX 0 (by omega)
        simpa [Addr.add] using World.cell?_spot g1
      subst hspot
      refine ⟨b, off, rfl, fun j e hj => ?_⟩
      obtain ⟨hjl, hj2⟩ := hmem j e hj
      obtain ⟨⟨g1, g2⟩, _⟩ := hX j (by omega)
      rw [hj2] at g1 g2
      rw [add_flat] at g1 g2
      rw [add_flat] at g2
      exact ⟨g1, g2⟩
    · obtain ⟨j, hj⟩ := List.mem_iff_getElem?.1 he
      obtain ⟨hjl, hj2⟩ := hmem j e hj
      obtain ⟨_, g⟩ := hX j (by omega)
      rw [hj2] at g
      exact g
theorem weights_all {P : Program} {e : TypeId} : ∀ {l : List (DataW H)} {d : DataW H}, d ∈ l → ∀ n ∈ d.weights P e, n ∈ DataW.weightsAll P e l
  | [], _, h, _, _ => by cases h
  | x :: r, d, h, n, hn => by
    simp only [DataW.weightsAll, List.mem_append]
    rcases List.mem_cons.1 h with rfl | h
    · exact .inl hn
    · exact .inr (weights_all h n hn)
theorem bytes_small {d : DataW H} {l : List UInt8} (h : BytesD d l) (hw : ∀ n ∈ d.weights Tryd.prog 23, n ≤ reachBytes) : l.length ≤ 140737488351232 := by
  rcases h with ⟨_, rfl⟩ | ⟨elems, spare, rfl, hl⟩
  · exact Nat.zero_le _
  · have h1 := hw ((elems.length + spare.length) * Tryd.prog.bytesOf 5) (by simp [DataW.weights, Tryd.underlying23])
    have e : Tryd.prog.bytesOf 5 = 1 := by kernel_rfl
    rw [e] at h1
    unfold reachBytes at h1
    omega
theorem arg_small {P : Program} {ts : List TypeId} {ds : List (DataW H)} {j : Nat} {t : TypeId} {d : DataW H} (hz : (DataW.weightsEach P ts ds).all (· ≤ reachBytes) = true) (ht : ts[j]? = some t) (hd : ds[j]? = some d) : ∀ n ∈ d.weights P t, n ≤ reachBytes := fun n hn => by
  have := List.all_eq_true.1 hz _ (DataW.weights_mem_each ht hd n hn)
  simpa using this
/-- What a record's lists read as. -/
def RecD (d : DataW H) (bf af : List UInt8) (L : List (Int × Int)) : Prop := ∃ d0 d1 d2 d3 d4 d5 d6 d7 d8 d9, d = .agg [d0, d1, d2, d3, d4, d5, d6, d7, d8, d9] ∧ BytesD d5 bf ∧ BytesD d6 af ∧ DirtD d8 L
theorem rec_small {d : DataW H} {bf af : List UInt8} {L : List (Int × Int)} (h : RecD d bf af L) (hw : ∀ n ∈ d.weights Tryd.prog 26, n ≤ reachBytes) : bf.length ≤ 140737488351232 ∧ af.length ≤ 140737488351232 ∧ L.length ≤ 140737488351232 := by
  obtain ⟨d0, d1, d2, d3, d4, d5, d6, d7, d8, d9, rfl, b5, b6, b8⟩ := h
  have each : ∀ (j : Nat) (t : TypeId) (e : DataW H), [5, 22, 22, 3, 3, 23, 23, 22, 24, 4][j]? = some t → [d0, d1, d2, d3, d4, d5, d6, d7, d8, d9][j]? = some e → ∀ n ∈ e.weights Tryd.prog t, n ≤ reachBytes := fun j t e ht he n hn => hw n (by
    simp only [DataW.weights, Tryd.underlying26]
    exact DataW.weights_mem_each (ts := [5, 22, 22, 3, 3, 23, 23, 22, 24, 4]) (j := j) ht he n hn)
  refine ⟨bytes_small b5 (each 5 _ _ rfl rfl), bytes_small b6 (each 6 _ _ rfl rfl), ?_⟩
  have h8 := each 8 _ _ rfl rfl
  rcases b8 with ⟨_, rfl⟩ | ⟨elems, spare, rfl, hl⟩
  · exact Nat.zero_le _
  · have h1 := h8 ((elems.length + spare.length) * Tryd.prog.bytesOf 47) (by simp [DataW.weights, Tryd.underlying24])
    have e : Tryd.prog.bytesOf 47 = 16 := by kernel_rfl
    rw [e] at h1
    unfold reachBytes at h1
    omega
set_option maxRecDepth 100000 in
/-- An argument that is a record. -/
theorem open_record {base : Nat} {v : Value} {d : DataW H} {ps : List MemPlace} (hval : Value.okWide Tryd.prog W .any base 26 v)
    (h : DataW.Trod enc Tryd.prog W 0 (fun _ => true) true 26 v d ps) :
    ∃ (k tx pv pg off nx : Int) (A B D : Option Addr) (a b d' : Nat) (bf af : List UInt8) (L : List (Int × Int)) (op : Bool), v = .agg #[.int .u8 k, .int .u64 tx, .int .u64 pv, .int .i64 pg, .int .i64 off, .slice A bf.length a, .slice B af.length b, .int .u64 nx, .slice D L.length d', .bool op] ∧
      Rd W A bf ∧ Rd W B af ∧ RdD W D L ∧ (bf.length ≤ a ∧ af.length ≤ b ∧ L.length ≤ d') ∧ (0 ≤ k ∧ k ≤ 255) ∧ (0 ≤ tx ∧ tx ≤ 18446744073709551615) ∧ (0 ≤ pv ∧ pv ≤ 18446744073709551615) ∧ (-9223372036854775808 ≤ pg ∧ pg ≤ 9223372036854775807) ∧ (-9223372036854775808 ≤ off ∧ off ≤ 9223372036854775807) ∧ (0 ≤ nx ∧ nx ≤ 18446744073709551615) ∧
      (∀ e ∈ L, (-9223372036854775808 ≤ e.1 ∧ e.1 < 9223372036854775808) ∧ 0 ≤ e.2 ∧ e.2 < 18446744073709551616) ∧ RecD d bf af L := by
  obtain ⟨cs, rfl, hsz⟩ := okWide_struct Tryd.underlying26 hval
  obtain ⟨fuel, hf⟩ := h
  obtain ⟨xs, m, _, hxx, hl, hxl, hall⟩ := DataW.trod_struct Tryd.underlying26 hf
  obtain ⟨l⟩ := cs
  have hcl : l.length = 10 := hsz.trans (by kernel_rfl)
  match l, hcl with
  | [v0, v1, v2, v3, v4, v5, v6, v7, v8, v9], _ =>
    have hx2 : xs.length = 10 := hxl
    match xs, hx2 with
    | [y0, y1, y2, y3, y4, y5, y6, y7, y8, y9], _ =>
      simp only [Prod.mk.injEq] at hxx
      have e0 : DataW.trod enc Tryd.prog W 0 (fun _ => true) true m 5 [v0] = some y0 := hall 0 _ rfl
      have e1 : DataW.trod enc Tryd.prog W 0 (fun _ => true) true m 22 [v1] = some y1 := hall 1 _ rfl
      have e2 : DataW.trod enc Tryd.prog W 0 (fun _ => true) true m 22 [v2] = some y2 := hall 2 _ rfl
      have e3 : DataW.trod enc Tryd.prog W 0 (fun _ => true) true m 3 [v3] = some y3 := hall 3 _ rfl
      have e4 : DataW.trod enc Tryd.prog W 0 (fun _ => true) true m 3 [v4] = some y4 := hall 4 _ rfl
      have e5 : DataW.trod enc Tryd.prog W 0 (fun _ => true) true m 23 [v5] = some y5 := hall 5 _ rfl
      have e6 : DataW.trod enc Tryd.prog W 0 (fun _ => true) true m 23 [v6] = some y6 := hall 6 _ rfl
      have e7 : DataW.trod enc Tryd.prog W 0 (fun _ => true) true m 22 [v7] = some y7 := hall 7 _ rfl
      have e8 : DataW.trod enc Tryd.prog W 0 (fun _ => true) true m 24 [v8] = some y8 := hall 8 _ rfl
      have e9 : DataW.trod enc Tryd.prog W 0 (fun _ => true) true m 4 [v9] = some y9 := hall 9 _ rfl
      obtain ⟨k, h0, _, w0⟩ := DataW.trod_int Tryd.underlying5 e0
      obtain ⟨tx, h1, _, w1⟩ := DataW.trod_int Tryd.underlying22 e1
      obtain ⟨pv, h2, _, w2⟩ := DataW.trod_int Tryd.underlying22 e2
      obtain ⟨pg, h3, _, w3⟩ := DataW.trod_int Tryd.underlying3 e3
      obtain ⟨off, h4, _, w4⟩ := DataW.trod_int Tryd.underlying3 e4
      obtain ⟨A, a, bf, h5, c5, r5, b5⟩ := bytes_open e5
      obtain ⟨B, b, af, h6, c6, r6, b6⟩ := bytes_open e6
      obtain ⟨nx, h7, _, w7⟩ := DataW.trod_int Tryd.underlying22 e7
      obtain ⟨D, d', L, h8, c8, r8, o8, b8⟩ := dirts_open e8
      obtain ⟨op, h9, _⟩ := DataW.trod_bool Tryd.underlying4 e9
      injection h0 with h0
      injection h1 with h1
      injection h2 with h2
      injection h3 with h3
      injection h4 with h4
      injection h5 with h5
      injection h6 with h6
      injection h7 with h7
      injection h8 with h8
      injection h9 with h9
      subst h0 h1 h2 h3 h4 h5 h6 h7 h8 h9
      exact ⟨k, tx, pv, pg, off, nx, A, B, D, a, b, d', bf, af, L, op, rfl, r5, r6, r8, ⟨c5, c6, c8⟩, bounds_u8 w0, bounds_u64 w1, bounds_u64 w2, bounds_i64 w3, bounds_i64 w4, bounds_u64 w7, o8, _, _, _, _, _, _, _, _, _, _, hxx.1, b5, b6, b8⟩
end
end Go.Proofs.YthdahgekodcloaaDoor
namespace Go.Proofs.YthdahgekodcloaaDoor
open Go.RowKit

def PartsP (k : Int) (w : World) (e : Ending) (w' : World) : Prop := e = .returned (.tuple #[.agg #[.bool (hpv k), .bool (hch k), .bool (hbf k), .bool (hnx k), .bool (hck k)], .bool (hok k)]) ∧ Ext w w'
set_option maxRecDepth 20000 in
set_option maxHeartbeats 1600000 in
theorem partsOf_any (k : Int) (w : World) : Calls Tryd.prog 16 #[.int .u8 k] w (PartsP k w) := by
  by_cases h1 : k = 1
  · subst h1
    go_enter Tryd.func16, Tryd.ntmps16
    go_wp2
    exact bodyPost_ret (v := .tuple #[.agg #[.bool false, .bool false, .bool false, .bool false, .bool false], .bool true]) (by simp [results, Tryd.results16, go_sem]) rfl ⟨rfl, Ext.alloc _ _⟩
  by_cases h2 : k = 2
  · subst h2
    clear h1
    go_enter Tryd.func16, Tryd.ntmps16
    go_wp2
    exact bodyPost_ret (v := .tuple #[.agg #[.bool true, .bool true, .bool true, .bool false, .bool false], .bool true]) (by simp [results, Tryd.results16, go_sem]) rfl ⟨rfl, Ext.alloc _ _⟩
  by_cases h3 : k = 3
  · subst h3
    clear h1
    clear h2
    go_enter Tryd.func16, Tryd.ntmps16
    go_wp2
    exact bodyPost_ret (v := .tuple #[.agg #[.bool true, .bool true, .bool false, .bool true, .bool false], .bool true]) (by simp [results, Tryd.results16, go_sem]) rfl ⟨rfl, Ext.alloc _ _⟩
  by_cases h4 : k = 4
  · subst h4
    clear h1
    clear h2
    clear h3
    go_enter Tryd.func16, Tryd.ntmps16
    go_wp2
    exact bodyPost_ret (v := .tuple #[.agg #[.bool true, .bool false, .bool false, .bool false, .bool false], .bool true]) (by simp [results, Tryd.results16, go_sem]) rfl ⟨rfl, Ext.alloc _ _⟩
  by_cases h5 : k = 5
  · subst h5
    clear h1
    clear h2
    clear h3
    clear h4
    go_enter Tryd.func16, Tryd.ntmps16
    go_wp2
    exact bodyPost_ret (v := .tuple #[.agg #[.bool true, .bool false, .bool false, .bool false, .bool false], .bool true]) (by simp [results, Tryd.results16, go_sem]) rfl ⟨rfl, Ext.alloc _ _⟩
  by_cases h6 : k = 6
  · subst h6
    clear h1
    clear h2
    clear h3
    clear h4
    clear h5
    go_enter Tryd.func16, Tryd.ntmps16
    go_wp2
    exact bodyPost_ret (v := .tuple #[.agg #[.bool true, .bool false, .bool false, .bool false, .bool true], .bool true]) (by simp [results, Tryd.results16, go_sem]) rfl ⟨rfl, Ext.alloc _ _⟩
  have HV : PartsP k = fun w e w' => e = .returned (.tuple #[.agg #[.bool false, .bool false, .bool false, .bool false, .bool false], .bool false]) ∧ Ext w w' := by
    funext w e w'
    have e1 : hpv k = false := by simp only [hpv, Bool.and_eq_false_iff, decide_eq_false_iff_not]; omega
    have e2 : hok k = false := by simp only [hok, Bool.and_eq_false_iff, decide_eq_false_iff_not]; omega
    have e3 : hch k = false := by simp [hch, h2, h3]
    have e4 : hbf k = false := by simp [hbf, h2]
    have e5 : hnx k = false := by simp [hnx, h3]
    have e6 : hck k = false := by simp [hck, h6]
    simp only [PartsP, e1, e2, e3, e4, e5, e6]
  rw [HV]
  clear HV
  have b1 : (k == 1) = false := beq_eq_false_iff_ne.2 h1
  have b2 : (k == 2) = false := beq_eq_false_iff_ne.2 h2
  have b3 : (k == 3) = false := beq_eq_false_iff_ne.2 h3
  have b4 : (k == 4) = false := beq_eq_false_iff_ne.2 h4
  have b5 : (k == 5) = false := beq_eq_false_iff_ne.2 h5
  have b6 : (k == 6) = false := beq_eq_false_iff_ne.2 h6
  go_enter Tryd.func16, Tryd.ntmps16
  go_wp2
  exact bodyPost_ret (v := .tuple #[.agg #[.bool false, .bool false, .bool false, .bool false, .bool false], .bool false]) (by simp [results, Tryd.results16, go_sem]) rfl ⟨rfl, Ext.alloc _ _⟩
theorem isPage_any (n : Int) (w : World) : Calls Tryd.prog 29 #[.int .i64 n] w (fun e w' => e = .returned (.bool (isPg n)) ∧ w' = w) := by
  by_cases h0 : 0 ≤ n
  · by_cases h1 : n < 4096
    · have HV : isPg n = true := by simp [isPg]; omega
      rw [HV]
      clear HV
      go_enter Tryd.func29, Tryd.ntmps29
      go_wp2
      go_ret
      exact ⟨rfl, rfl⟩
    · have hd1 : decide (n < 4096) = false := decide_eq_false h1
      have HV : isPg n = false := by simp [isPg]; omega
      rw [HV]
      clear HV
      go_enter Tryd.func29, Tryd.ntmps29
      go_wp2
      go_ret
      exact ⟨rfl, rfl⟩
  · have hd0 : decide (0 ≤ n) = false := decide_eq_false h0
    have HV : isPg n = false := by simp [isPg]; omega
    rw [HV]
    clear HV
    go_enter Tryd.func29, Tryd.ntmps29
    go_wp2
    go_ret
    exact ⟨rfl, rfl⟩
def chgN (pg off : Int) (na nb : Nat) (c b : Bool) : Bool := if c then isPg pg && (decide (1 ≤ na) && ((nb == if b then na else 0) && (decide (0 ≤ off) && decide (off ≤ 512 - (na : Int))))) else (pg == 0) && ((off == 0) && ((na == 0) && (nb == 0)))
set_option maxRecDepth 20000 in
set_option maxHeartbeats 1600000 in
theorem changeFits_any (k tx pv pg off nx : Int) (A B D : Option Addr) (nb a na b' nd d : Nat) (op : Bool) (p c b n x : Bool) (w : World) (hna : na ≤ 140737488351232) (hnb : nb ≤ 140737488351232) (ho : -9223372036854775808 ≤ off) (ho2 : off < 9223372036854775808) :
    Calls Tryd.prog 17 #[.agg #[.int .u8 k, .int .u64 tx, .int .u64 pv, .int .i64 pg, .int .i64 off, .slice A nb a, .slice B na b', .int .u64 nx, .slice D nd d, .bool op], .agg #[.bool p, .bool c, .bool b, .bool n, .bool x]] w (RetB w (chgN pg off na nb c b)) := by
  have HO := hide (And.intro ho ho2)
  clear ho ho2
  cases c with
  | false =>
    by_cases h0 : pg = 0
    · have yh0 : (pg == 0) = true := by simp [h0]
      by_cases h1 : off = 0
      · have yh1 : (off == 0) = true := by simp [h1]
        by_cases h2 : na = 0
        · have yh2 : ((na : Int) == 0) = true := by simp [h2]
          by_cases h3 : nb = 0
          · have yh3 : ((nb : Int) == 0) = true := by simp [h3]
            have HV : chgN pg off na nb false b = true := by simp [chgN, h0, h1, h2, h3]
            rw [HV]
            clear HV
            go_enter Tryd.func17, Tryd.ntmps17
            go_wp2
            go_ret
            exact ⟨rfl, (Ext.alloc _ _).trans (Ext.alloc _ _)⟩
          · have yh3 : ((nb : Int) == 0) = false := by simp [h3]
            have HV : chgN pg off na nb false b = false := by simp [chgN, h0, h1, h2, h3]
            rw [HV]
            clear HV
            go_enter Tryd.func17, Tryd.ntmps17
            go_wp2
            go_ret
            exact ⟨rfl, (Ext.alloc _ _).trans (Ext.alloc _ _)⟩
        · have yh2 : ((na : Int) == 0) = false := by simp [h2]
          have HV : chgN pg off na nb false b = false := by simp [chgN, h0, h1, h2]
          rw [HV]
          clear HV
          go_enter Tryd.func17, Tryd.ntmps17
          go_wp2
          go_ret
          exact ⟨rfl, (Ext.alloc _ _).trans (Ext.alloc _ _)⟩
      · have yh1 : (off == 0) = false := by simp [h1]
        have HV : chgN pg off na nb false b = false := by simp [chgN, h0, h1]
        rw [HV]
        clear HV
        go_enter Tryd.func17, Tryd.ntmps17
        go_wp2
        go_ret
        exact ⟨rfl, (Ext.alloc _ _).trans (Ext.alloc _ _)⟩
    · have yh0 : (pg == 0) = false := by simp [h0]
      have HV : chgN pg off na nb false b = false := by simp [chgN, h0]
      rw [HV]
      clear HV
      go_enter Tryd.func17, Tryd.ntmps17
      go_wp2
      go_ret
      exact ⟨rfl, (Ext.alloc _ _).trans (Ext.alloc _ _)⟩
  | true =>
    obtain ⟨q, HQ⟩ : ∃ q, Hid (isPg pg = q) := ⟨_, hide rfl⟩
    have KP := hide (fun (W : World) => (show Calls Tryd.prog 29 #[.int .i64 pg] W (fun e w' => e = .returned (.bool q) ∧ w' = W) from by have h := isPage_any pg W; rw [HQ.out] at h; exact h))
    obtain ⟨m, HM⟩ : ∃ m : Nat, Hid ((if b then na else 0) = m) := ⟨_, hide rfl⟩
    have hm : m ≤ 140737488351232 := by rw [← HM.out]; split <;> omega
    by_cases h0 : q = true
    · subst h0
      by_cases h1 : 1 ≤ na
      · have h1i : (1 : Int) ≤ (na : Int) := by omega
        by_cases h2 : nb = m
        · have h2i : ((nb : Int) == (m : Int)) = true := by simp [h2]
          by_cases h3 : 0 ≤ off
          · by_cases h4 : off ≤ 512 - (na : Int)
            · have HV : chgN pg off na nb true b = true := by
                have hq := HQ.out
                have hm2 := HM.out
                simp only [chgN, if_true, hq, hm2]
                simp [h1, h2, h3, h4] <;> omega
              rw [HV]
              clear HV
              cases b with
              | false =>
                obtain rfl : m = 0 := HM.out.symm
                go_enter Tryd.func17, Tryd.ntmps17
                go_wp2_with (go_at_call 29; (with_reducible refine (KP.out _).mono ?_); rintro e w2 ⟨rfl, rfl⟩)
                go_ret
                exact ⟨rfl, (Ext.alloc _ _).trans (Ext.alloc _ _)⟩
              | true =>
                obtain rfl : na = m := HM.out
                go_enter Tryd.func17, Tryd.ntmps17
                go_wp2_with (go_at_call 29; (with_reducible refine (KP.out _).mono ?_); rintro e w2 ⟨rfl, rfl⟩)
                go_ret
                exact ⟨rfl, (Ext.alloc _ _).trans (Ext.alloc _ _)⟩
            · have h4i : decide (off ≤ 512 - (na : Int)) = false := decide_eq_false h4
              have HV : chgN pg off na nb true b = false := by
                have hq := HQ.out
                have hm2 := HM.out
                simp only [chgN, if_true, hq, hm2]
                simp [h1, h2, h3, h4] <;> omega
              rw [HV]
              clear HV
              cases b with
              | false =>
                obtain rfl : m = 0 := HM.out.symm
                go_enter Tryd.func17, Tryd.ntmps17
                go_wp2_with (go_at_call 29; (with_reducible refine (KP.out _).mono ?_); rintro e w2 ⟨rfl, rfl⟩)
                go_ret
                exact ⟨rfl, (Ext.alloc _ _).trans (Ext.alloc _ _)⟩
              | true =>
                obtain rfl : na = m := HM.out
                go_enter Tryd.func17, Tryd.ntmps17
                go_wp2_with (go_at_call 29; (with_reducible refine (KP.out _).mono ?_); rintro e w2 ⟨rfl, rfl⟩)
                go_ret
                exact ⟨rfl, (Ext.alloc _ _).trans (Ext.alloc _ _)⟩
          · have h3i : decide (0 ≤ off) = false := decide_eq_false h3
            have HV : chgN pg off na nb true b = false := by
              have hq := HQ.out
              have hm2 := HM.out
              simp only [chgN, if_true, hq, hm2]
              simp [h1, h2, h3] <;> omega
            rw [HV]
            clear HV
            cases b with
            | false =>
              obtain rfl : m = 0 := HM.out.symm
              go_enter Tryd.func17, Tryd.ntmps17
              go_wp2_with (go_at_call 29; (with_reducible refine (KP.out _).mono ?_); rintro e w2 ⟨rfl, rfl⟩)
              go_ret
              exact ⟨rfl, (Ext.alloc _ _).trans (Ext.alloc _ _)⟩
            | true =>
              obtain rfl : na = m := HM.out
              go_enter Tryd.func17, Tryd.ntmps17
              go_wp2_with (go_at_call 29; (with_reducible refine (KP.out _).mono ?_); rintro e w2 ⟨rfl, rfl⟩)
              go_ret
              exact ⟨rfl, (Ext.alloc _ _).trans (Ext.alloc _ _)⟩
        · have h2i : ((nb : Int) == (m : Int)) = false := by simp; omega
          have HV : chgN pg off na nb true b = false := by
            have hq := HQ.out
            have hm2 := HM.out
            simp only [chgN, if_true, hq, hm2]
            simp [h1, h2] <;> omega
          rw [HV]
          clear HV
          cases b with
          | false =>
            obtain rfl : m = 0 := HM.out.symm
            go_enter Tryd.func17, Tryd.ntmps17
            go_wp2_with (go_at_call 29; (with_reducible refine (KP.out _).mono ?_); rintro e w2 ⟨rfl, rfl⟩)
            go_ret
            exact ⟨rfl, (Ext.alloc _ _).trans (Ext.alloc _ _)⟩
          | true =>
            obtain rfl : na = m := HM.out
            go_enter Tryd.func17, Tryd.ntmps17
            go_wp2_with (go_at_call 29; (with_reducible refine (KP.out _).mono ?_); rintro e w2 ⟨rfl, rfl⟩)
            go_ret
            exact ⟨rfl, (Ext.alloc _ _).trans (Ext.alloc _ _)⟩
      · have h1i : decide ((1 : Int) ≤ (na : Int)) = false := by simp; omega
        have HV : chgN pg off na nb true b = false := by
          have hq := HQ.out
          have hm2 := HM.out
          simp only [chgN, if_true, hq, hm2]
          simp [h1] <;> omega
        rw [HV]
        clear HV
        cases b with
        | false =>
          obtain rfl : m = 0 := HM.out.symm
          go_enter Tryd.func17, Tryd.ntmps17
          go_wp2_with (go_at_call 29; (with_reducible refine (KP.out _).mono ?_); rintro e w2 ⟨rfl, rfl⟩)
          go_ret
          exact ⟨rfl, (Ext.alloc _ _).trans (Ext.alloc _ _)⟩
        | true =>
          obtain rfl : na = m := HM.out
          go_enter Tryd.func17, Tryd.ntmps17
          go_wp2_with (go_at_call 29; (with_reducible refine (KP.out _).mono ?_); rintro e w2 ⟨rfl, rfl⟩)
          go_ret
          exact ⟨rfl, (Ext.alloc _ _).trans (Ext.alloc _ _)⟩
    · have h0 : q = false := by simpa using h0
      subst h0
      have HV : chgN pg off na nb true b = false := by
        have hq := HQ.out
        have hm2 := HM.out
        simp only [chgN, if_true, hq, hm2]
        simp
      rw [HV]
      clear HV
      cases b with
      | false =>
        obtain rfl : m = 0 := HM.out.symm
        go_enter Tryd.func17, Tryd.ntmps17
        go_wp2_with (go_at_call 29; (with_reducible refine (KP.out _).mono ?_); rintro e w2 ⟨rfl, rfl⟩)
        go_ret
        exact ⟨rfl, (Ext.alloc _ _).trans (Ext.alloc _ _)⟩
      | true =>
        obtain rfl : na = m := HM.out
        go_enter Tryd.func17, Tryd.ntmps17
        go_wp2_with (go_at_call 29; (with_reducible refine (KP.out _).mono ?_); rintro e w2 ⟨rfl, rfl⟩)
        go_ret
        exact ⟨rfl, (Ext.alloc _ _).trans (Ext.alloc _ _)⟩
end Go.Proofs.YthdahgekodcloaaDoor
namespace Go.Proofs.YthdahgekodcloaaDoor
open Go.RowKit

def chkN (L : List (Int × Int)) (nd : Nat) (op x : Bool) : Bool := if x then decide (nd ≤ 64) && risB (-1) L else (nd == 0) && !op
def LastP (L : List (Int × Int)) (i : Nat) (last : Int) : Prop := (i = 0 ∧ last = -1) ∨ (0 < i ∧ 0 ≤ last ∧ ∃ e, L[i - 1]? = some e ∧ e.1 = last)
theorem risB_at {L : List (Int × Int)} {i : Nat} {d : Int × Int} (h : L[i]? = some d) (last : Int) : risB last (L.drop i) = (decide (last < d.1) && (decide (d.1 < 4096) && risB d.1 (L.drop (i + 1)))) := by
  obtain ⟨hl, he⟩ := List.getElem?_eq_some_iff.1 h
  rw [List.drop_eq_getElem_cons hl, he]
  rfl
set_option maxRecDepth 20000 in
set_option maxHeartbeats 3200000 in
theorem checkFits_any (k tx pv pg off nx : Int) (A B D : Option Addr) (nb a na b' nd d : Nat) (op : Bool) (p c b n x : Bool) (w : World) (L : List (Int × Int)) (hr : RdD w D L) (hn : L.length = nd) (hnd : nd ≤ 140737488351232) :
    Calls Tryd.prog 18 #[.agg #[.int .u8 k, .int .u64 tx, .int .u64 pv, .int .i64 pg, .int .i64 off, .slice A nb a, .slice B na b', .int .u64 nx, .slice D nd d, .bool op], .agg #[.bool p, .bool c, .bool b, .bool n, .bool x]] w (RetB w (chkN L nd op x)) := by
  have HR := hide hr
  have HN := hide hn
  clear hr hn
  cases x with
  | false =>
    by_cases h0 : nd = 0
    · have yh0 : ((nd : Int) == 0) = true := by simp [h0]
      by_cases h1 : op = false
      · subst h1
        have HV : chkN L nd false false = true := by simp [chkN, h0]
        rw [HV]
        clear HV
        go_enter Tryd.func18, Tryd.ntmps18
        go_wp2
        go_ret
        exact ⟨rfl, (Ext.alloc _ _).trans (Ext.alloc _ _)⟩
      · have h1 : op = true := by simpa using h1
        subst h1
        have HV : chkN L nd true false = false := by simp [chkN, h0]
        rw [HV]
        clear HV
        go_enter Tryd.func18, Tryd.ntmps18
        go_wp2
        go_ret
        exact ⟨rfl, (Ext.alloc _ _).trans (Ext.alloc _ _)⟩
    · have yh0 : ((nd : Int) == 0) = false := by simp [h0]
      have HV : chkN L nd op false = false := by simp [chkN, h0]
      rw [HV]
      clear HV
      go_enter Tryd.func18, Tryd.ntmps18
      go_wp2
      go_ret
      exact ⟨rfl, (Ext.alloc _ _).trans (Ext.alloc _ _)⟩
  | true =>
    by_cases h0 : nd ≤ 64
    · have h0i : ¬ (64 : Int) < (nd : Int) := by omega
      have HV : chkN L nd op true = risB (-1) L := by simp [chkN, h0]
      rw [HV]
      clear HV
      go_enter Tryd.func18, Tryd.ntmps18
      go_upto_region 6 with fail
      obtain ⟨W1, hX1, hR1, hg⟩ : ∃ W1, Ext w W1 ∧ Rw W1 w.heap.size 26 [.int .u8 k, .int .u64 tx, .int .u64 pv, .int .i64 pg, .int .i64 off, .slice A nb a, .slice B na b', .int .u64 nx, .slice D nd d, .bool op] ∧ (w.alloc (.cells #[.int .u8 k, .int .u64 tx, .int .u64 pv, .int .i64 pg, .int .i64 off, .slice A nb a, .slice B na b', .int .u64 nx, .slice D nd d, .bool op] 26)).alloc (.cells #[.bool p, .bool c, .bool b, .bool n, .bool true] 42) = W1 := ⟨_, (Ext.alloc _ _).trans (Ext.alloc _ _), (Rw.new w 26 [.int .u8 k, .int .u64 tx, .int .u64 pv, .int .i64 pg, .int .i64 off, .slice A nb a, .slice B na b', .int .u64 nx, .slice D nd d, .bool op]).ext (Ext.alloc _ _), rfl⟩
      rw [hg]
      obtain ⟨hb, HHB⟩ : ∃ hb, Hid (w.heap.size = hb) := ⟨_, hide rfl⟩
      rw [HHB.out] at hR1
      try rw [HHB.out]
      have X1 := hide hX1
      have R1 := hide hR1
      clear hg hX1 hR1
      go_loopw [26] (fun iv wr => ∃ (i : Nat) (last : Int), i ≤ nd ∧ iv = .int .i64 (i : Int) ∧ Hid (risB (-1) L = risB last (L.drop i)) ∧ Hid (LastP L i last) ∧ Hid (Ext w wr) ∧ Hid (Rw wr hb 26 [.int .u8 k, .int .u64 tx, .int .u64 pv, .int .i64 pg, .int .i64 off, .slice A nb a, .slice B na b', .int .u64 nx, .slice D nd d, .bool op])) (fun iv _ => nd - (intOf iv).toNat)
      case atStart => exact ⟨0, -1, Nat.zero_le _, rfl, hide rfl, hide (.inl ⟨rfl, rfl⟩), X1, R1⟩
      case round =>
        obtain ⟨i, last, hi, rfl, HB, HLP, HX, HRB⟩ := hrel
        clear X1 R1
        by_cases hlt : i < nd
        · obtain ⟨⟨y, z⟩, he⟩ : ∃ e, L[i]? = some e := ⟨_, List.getElem?_eq_getElem (by rw [HN.out]; exact hlt)⟩
          obtain ⟨bb, oo, hD, k1, k2⟩ := (HR.out.ext HX.out).at he
          subst hD
          have HSTEP := hide (risB_at he last)
          have HE := hide he
          obtain ⟨q, HQ⟩ : ∃ q, Hid (isPg y = q) := ⟨_, hide rfl⟩
          have KP := hide (fun (W : World) => (show Calls Tryd.prog 29 #[.int .i64 y] W (fun e w' => e = .returned (.bool q) ∧ w' = W) from by have h := isPage_any y W; rw [HQ.out] at h; exact h))
          have hii : (i : Int) < (nd : Int) := by omega
          have hi0 : (0 : Int) ≤ (i : Int) := by omega
          have hib : (i : Int) ≤ 64 := by omega
          clear he
          go_upto_region 8 with fail
          obtain ⟨W8, hX8, hR8, hg⟩ : ∃ W8, Ext wr W8 ∧ Rw W8 wr.heap.size 47 [.int .i64 y, .int .u64 z] ∧ wr.alloc (.cells #[.int .i64 y, .int .u64 z] 47) = W8 := ⟨_, Ext.alloc _ _, Rw.new _ _ _, rfl⟩
          rw [hg]
          obtain ⟨h8, HH8⟩ : ∃ h8, Hid (wr.heap.size = h8) := ⟨_, hide rfl⟩
          rw [HH8.out] at hR8 ⊢
          have X8 := hide (HX.out.trans hX8)
          have RB8 := hide (HRB.out.ext hX8)
          have d0 := hR8.cell (i := 0) rfl
          have f8 := RB8.out.cell (i := 8) rfl
          clear hg hX8 hR8 HX HRB k1 k2
          cases q with
          | false =>
            have HF : Hid (risB (-1) L = false) := hide (by
              rw [HB.out, HSTEP.out]
              have hq := HQ.out
              have hl := HLP.out
              have hge : -1 ≤ last := by rcases hl with ⟨_, h⟩ | ⟨_, h, _⟩ <;> omega
              simp only [isPg, Bool.and_eq_false_iff, decide_eq_false_iff_not] at hq
              simp only [Bool.and_eq_false_iff, decide_eq_false_iff_not]
              omega)
            go_quiet ((go_at_call 29; exact Calls.quiet_of_same (KP.out _)))
            go_wp2
            go_ret
            exact ⟨by rw [HF.out]; rfl, X8.out.drewN nq⟩
          | true =>
            have hpg : 0 ≤ y ∧ y < 4096 := by have hq := HQ.out; simpa [isPg] using hq
            by_cases hiz : i = 0
            · have hd : decide ((0 : Int) < (i : Int)) = false := by simp; omega
              have hdn : decide (0 < i) = false := by simp; omega
              have HBN : Hid (risB (-1) L = risB y (L.drop (i + 1))) := hide (by
                rw [HB.out, HSTEP.out]
                have hl : last = -1 := by rcases HLP.out with ⟨_, h⟩ | ⟨h, _⟩ <;> omega
                simp only [hl]
                have e1 : decide (-1 < y) = true := by simp; omega
                have e2 : decide (y < 4096) = true := by simp; omega
                rw [e1, e2]; rfl)
              have HIZ := hide hiz
              clear hiz
              go_quiet ((go_at_call 29; exact Calls.quiet_of_same (KP.out _)))
              go_wp2
              refine ⟨⟨i + 1, y, by omega, by go_num, HBN, hide (.inr ⟨Nat.succ_pos _, hpg.1, _, HE.out, rfl⟩), hide (X8.out.drewN nq), hide (RB8.out.ext ((Ext.refl _).drewN nq))⟩, by simp [intOf]; omega⟩
            · have hd : (0 : Int) < (i : Int) := by omega
              have hdn : 0 < i := by omega
              obtain ⟨j, hj⟩ : ∃ j, i = j + 1 := ⟨i - 1, by omega⟩
              have hw : IntKind.i64.wrap ((i : Int) - 1) = (j : Int) := by rw [IntKind.wrap_i64]; omega
              have hw1 : (i : Int) - 1 = (j : Int) := by omega
              have hj1 : (j : Int) < (nd : Int) := by omega
              have hj0 : (0 : Int) ≤ (j : Int) := by omega
              obtain ⟨⟨y2, z2⟩, he2, hl2, hge⟩ : ∃ e, L[j]? = some e ∧ e.1 = last ∧ 0 ≤ last := by
                rcases HLP.out with ⟨h, _⟩ | ⟨_, h2, e, h3, h4⟩
                · omega
                · rw [hj] at h3; exact ⟨e, h3, h4, h2⟩
              have hl3 : y2 = last := hl2
              obtain ⟨b3, o3, hD3, k3, -⟩ := (HR.out.ext X8.out).at he2
              injection hD3 with hD3
              injection hD3 with hD4 hD5
              subst hD4 hD5
              have HJ := hide hj
              have HGE := hide hge
              clear hj hl2 he2 hge
              subst hl3
              by_cases hle : y ≤ y2
              · have HF : Hid (risB (-1) L = false) := hide (by
                  rw [HB.out, HSTEP.out]
                  have e1 : decide (y2 < y) = false := by simp; omega
                  simp only [e1, Bool.false_and])
                clear hiz
                go_quiet ((go_at_call 29; exact Calls.quiet_of_same (KP.out _)))
                go_wp2
                go_ret
                exact ⟨by rw [HF.out]; rfl, X8.out.drewN nq⟩
              · have hle2 : decide (y ≤ y2) = false := decide_eq_false hle
                have HBN : Hid (risB (-1) L = risB y (L.drop (i + 1))) := hide (by
                  rw [HB.out, HSTEP.out]
                  have e1 : decide (y2 < y) = true := by simp; omega
                  have e2 : decide (y < 4096) = true := by simp; omega
                  rw [e1, e2]; rfl)
                clear hiz hle
                go_quiet ((go_at_call 29; exact Calls.quiet_of_same (KP.out _)))
                go_wp2
                refine ⟨⟨i + 1, y, by omega, by go_num, HBN, hide (.inr ⟨Nat.succ_pos _, hpg.1, _, HE.out, rfl⟩), hide (X8.out.drewN nq), hide (RB8.out.ext ((Ext.refl _).drewN nq))⟩, by simp [intOf]; omega⟩
        · have hii : ¬ (i : Int) < (nd : Int) := by omega
          have HT : Hid (risB (-1) L = true) := hide (by rw [HB.out, List.drop_of_length_le (by rw [HN.out]; omega)]; rfl)
          go_wp2
          go_ret
          exact ⟨by rw [HT.out]; rfl, HX.out⟩
    · have h0i : (64 : Int) < (nd : Int) := by omega
      have HV : chkN L nd op true = false := by simp [chkN]; omega
      rw [HV]
      clear HV
      go_enter Tryd.func18, Tryd.ntmps18
      go_wp2
      go_ret
      exact ⟨rfl, (Ext.alloc _ _).trans (Ext.alloc _ _)⟩
end Go.Proofs.YthdahgekodcloaaDoor
namespace Go.Proofs.YthdahgekodcloaaDoor
open Go.RowKit

theorem ret_bool {a b : Bool} (h : a = b) : Ending.returned (.bool a) = .returned (.bool b) := by rw [h]
def formN (k pv pg off nx : Int) (na nb nd : Nat) (L : List (Int × Int)) (op : Bool) : Bool := hok k && ((hpv k || (pv == 0)) && ((hnx k || (nx == 0)) && (chgN pg off na nb (hch k) (hbf k) && chkN L nd op (hck k))))
set_option maxRecDepth 20000 in
set_option maxHeartbeats 3200000 in
theorem form_any (k tx pv pg off nx : Int) (A B D : Option Addr) (nb a na b' nd d : Nat) (op : Bool) (w : World) (L : List (Int × Int)) (hr : RdD w D L) (hn : L.length = nd) (hnd : nd ≤ 140737488351232) (hna : na ≤ 140737488351232) (hnb : nb ≤ 140737488351232) (ho : -9223372036854775808 ≤ off) (ho2 : off < 9223372036854775808) :
    Calls Tryd.prog 9 #[.agg #[.int .u8 k, .int .u64 tx, .int .u64 pv, .int .i64 pg, .int .i64 off, .slice A nb a, .slice B na b', .int .u64 nx, .slice D nd d, .bool op]] w (RetB w (formN k pv pg off nx na nb nd L op)) := by
  obtain ⟨o, HO⟩ : ∃ o, Hid (hok k = o) := ⟨_, hide rfl⟩
  obtain ⟨p, HP⟩ : ∃ o, Hid (hpv k = o) := ⟨_, hide rfl⟩
  obtain ⟨c, HC⟩ : ∃ o, Hid (hch k = o) := ⟨_, hide rfl⟩
  obtain ⟨b, HB⟩ : ∃ o, Hid (hbf k = o) := ⟨_, hide rfl⟩
  obtain ⟨n, HN⟩ : ∃ o, Hid (hnx k = o) := ⟨_, hide rfl⟩
  obtain ⟨x, HX⟩ : ∃ o, Hid (hck k = o) := ⟨_, hide rfl⟩
  obtain ⟨g1, HG1⟩ : ∃ g, Hid (chgN pg off na nb c b = g) := ⟨_, hide rfl⟩
  obtain ⟨g2, HG2⟩ : ∃ g, Hid (chkN L nd op x = g) := ⟨_, hide rfl⟩
  have HV : formN k pv pg off nx na nb nd L op = (o && ((p || (pv == 0)) && ((n || (nx == 0)) && (g1 && g2)))) := by
    simp only [formN, HO.out, HP.out, HC.out, HB.out, HN.out, HX.out, HG1.out, HG2.out]
  rw [HV]
  have KP := hide (fun (W : World) => (show Calls Tryd.prog 16 #[.int .u8 k] W (fun e w' => e = .returned (.tuple #[.agg #[.bool p, .bool c, .bool b, .bool n, .bool x], .bool o]) ∧ Ext W w') from by have h := partsOf_any k W; unfold PartsP at h; rw [HO.out, HP.out, HC.out, HB.out, HN.out, HX.out] at h; exact h))
  have KC := hide (fun (W : World) => (show Calls Tryd.prog 17 #[.agg #[.int .u8 k, .int .u64 tx, .int .u64 pv, .int .i64 pg, .int .i64 off, .slice A nb a, .slice B na b', .int .u64 nx, .slice D nd d, .bool op], .agg #[.bool p, .bool c, .bool b, .bool n, .bool x]] W (RetB W g1) from by have h := changeFits_any k tx pv pg off nx A B D nb a na b' nd d op p c b n x W hna hnb ho ho2; rw [HG1.out] at h; exact h))
  have KK := hide (fun (W : World) (hW : Ext w W) => (show Calls Tryd.prog 18 #[.agg #[.int .u8 k, .int .u64 tx, .int .u64 pv, .int .i64 pg, .int .i64 off, .slice A nb a, .slice B na b', .int .u64 nx, .slice D nd d, .bool op], .agg #[.bool p, .bool c, .bool b, .bool n, .bool x]] W (RetB W g2) from by have h := checkFits_any k tx pv pg off nx A B D nb a na b' nd d op p c b n x W L (hr.ext hW) hn hnd; rw [HG2.out] at h; exact h))
  clear hr hn hnd hna hnb ho ho2 HV HO HP HC HB HN HX HG1 HG2
  go_enter Tryd.func9, Tryd.ntmps9
  go_upto_region 1 with fail
  obtain ⟨W1, hX1, hR1, hg⟩ : ∃ W1, Ext w W1 ∧ Rw W1 w.heap.size 26 [.int .u8 k, .int .u64 tx, .int .u64 pv, .int .i64 pg, .int .i64 off, .slice A nb a, .slice B na b', .int .u64 nx, .slice D nd d, .bool op] ∧ w.alloc (.cells #[.int .u8 k, .int .u64 tx, .int .u64 pv, .int .i64 pg, .int .i64 off, .slice A nb a, .slice B na b', .int .u64 nx, .slice D nd d, .bool op] 26) = W1 := ⟨_, Ext.alloc _ _, Rw.new _ _ _, rfl⟩
  rw [hg]
  obtain ⟨hb, HHB⟩ : ∃ hb, Hid (w.heap.size = hb) := ⟨_, hide rfl⟩
  rw [HHB.out] at hR1 ⊢
  have X1 := hide hX1
  have R1 := hide hR1
  have y0 := R1.out.cell (i := 0) rfl
  clear hg hX1 hR1
  go_upto_region 2 with (go_at_call 16; (with_reducible refine (KP.out _).mono ?_); rintro e w2 ⟨rfl, hx2⟩; have X2 := hide (X1.out.trans hx2); have R2 := hide (R1.out.ext hx2); clear hx2)
  clear y0
  obtain ⟨W3, hX3, hR3, hE3, hg⟩ : ∃ W3, Ext w W3 ∧ Rw W3 w2.heap.size 42 [.bool p, .bool c, .bool b, .bool n, .bool x] ∧ Ext w2 W3 ∧ w2.alloc (.cells #[.bool p, .bool c, .bool b, .bool n, .bool x] 42) = W3 := ⟨_, X2.out.trans (Ext.alloc _ _), Rw.new _ _ _, Ext.alloc _ _, rfl⟩
  rw [hg]
  obtain ⟨hq, HHQ⟩ : ∃ hq, Hid (w2.heap.size = hq) := ⟨_, hide rfl⟩
  rw [HHQ.out] at hR3 ⊢
  have X3 := hide hX3
  have R3 := hide (R2.out.ext hE3)
  have Q3 := hide hR3
  clear hg hX3 hR3 hE3 X1 X2 R1 R2 HHB HHQ KP
  have c0 := R3.out.cell (i := 0) rfl
  have c1 := R3.out.cell (i := 1) rfl
  have c2 := R3.out.cell (i := 2) rfl
  have c3 := R3.out.cell (i := 3) rfl
  have c4 := R3.out.cell (i := 4) rfl
  have c5 := R3.out.cell (i := 5) rfl
  have c6 := R3.out.cell (i := 6) rfl
  have c7 := R3.out.cell (i := 7) rfl
  have c8 := R3.out.cell (i := 8) rfl
  have c9 := R3.out.cell (i := 9) rfl
  have q0 := Q3.out.cell (i := 0) rfl
  have q1 := Q3.out.cell (i := 1) rfl
  have q2 := Q3.out.cell (i := 2) rfl
  have q3 := Q3.out.cell (i := 3) rfl
  have q4 := Q3.out.cell (i := 4) rfl
  cases o with
  | false =>
    go_wp2_with (first
      | (go_at_call 17; (with_reducible refine (KC.out _).mono ?_); rintro e w4 ⟨rfl, hx4⟩; have X4 := hide (X3.out.trans hx4); have d0 := (R3.out.ext hx4).cell (i := 0) rfl; have d1 := (R3.out.ext hx4).cell (i := 1) rfl; have d2 := (R3.out.ext hx4).cell (i := 2) rfl; have d3 := (R3.out.ext hx4).cell (i := 3) rfl; have d4 := (R3.out.ext hx4).cell (i := 4) rfl; have d5 := (R3.out.ext hx4).cell (i := 5) rfl; have d6 := (R3.out.ext hx4).cell (i := 6) rfl; have d7 := (R3.out.ext hx4).cell (i := 7) rfl; have d8 := (R3.out.ext hx4).cell (i := 8) rfl; have d9 := (R3.out.ext hx4).cell (i := 9) rfl; have r0 := (Q3.out.ext hx4).cell (i := 0) rfl; have r1 := (Q3.out.ext hx4).cell (i := 1) rfl; have r2 := (Q3.out.ext hx4).cell (i := 2) rfl; have r3 := (Q3.out.ext hx4).cell (i := 3) rfl; have r4 := (Q3.out.ext hx4).cell (i := 4) rfl; clear hx4)
      | (go_at_call 18; (with_reducible refine (KK.out _ X4.out).mono ?_); rintro e w5 ⟨rfl, hx5⟩; have X5 := hide (X4.out.trans hx5); clear hx5))
    go_ret
    exact ⟨rfl, X3.out⟩
  | true =>
    cases p with
    | true =>
      cases n with
      | true =>
        cases g1 with
        | false =>
          go_wp2_with (first
            | (go_at_call 17; (with_reducible refine (KC.out _).mono ?_); rintro e w4 ⟨rfl, hx4⟩; have X4 := hide (X3.out.trans hx4); have d0 := (R3.out.ext hx4).cell (i := 0) rfl; have d1 := (R3.out.ext hx4).cell (i := 1) rfl; have d2 := (R3.out.ext hx4).cell (i := 2) rfl; have d3 := (R3.out.ext hx4).cell (i := 3) rfl; have d4 := (R3.out.ext hx4).cell (i := 4) rfl; have d5 := (R3.out.ext hx4).cell (i := 5) rfl; have d6 := (R3.out.ext hx4).cell (i := 6) rfl; have d7 := (R3.out.ext hx4).cell (i := 7) rfl; have d8 := (R3.out.ext hx4).cell (i := 8) rfl; have d9 := (R3.out.ext hx4).cell (i := 9) rfl; have r0 := (Q3.out.ext hx4).cell (i := 0) rfl; have r1 := (Q3.out.ext hx4).cell (i := 1) rfl; have r2 := (Q3.out.ext hx4).cell (i := 2) rfl; have r3 := (Q3.out.ext hx4).cell (i := 3) rfl; have r4 := (Q3.out.ext hx4).cell (i := 4) rfl; clear hx4)
            | (go_at_call 18; (with_reducible refine (KK.out _ X4.out).mono ?_); rintro e w5 ⟨rfl, hx5⟩; have X5 := hide (X4.out.trans hx5); clear hx5))
          go_ret
          exact ⟨rfl, X4.out⟩
        | true =>
          go_wp2_with (first
            | (go_at_call 17; (with_reducible refine (KC.out _).mono ?_); rintro e w4 ⟨rfl, hx4⟩; have X4 := hide (X3.out.trans hx4); have d0 := (R3.out.ext hx4).cell (i := 0) rfl; have d1 := (R3.out.ext hx4).cell (i := 1) rfl; have d2 := (R3.out.ext hx4).cell (i := 2) rfl; have d3 := (R3.out.ext hx4).cell (i := 3) rfl; have d4 := (R3.out.ext hx4).cell (i := 4) rfl; have d5 := (R3.out.ext hx4).cell (i := 5) rfl; have d6 := (R3.out.ext hx4).cell (i := 6) rfl; have d7 := (R3.out.ext hx4).cell (i := 7) rfl; have d8 := (R3.out.ext hx4).cell (i := 8) rfl; have d9 := (R3.out.ext hx4).cell (i := 9) rfl; have r0 := (Q3.out.ext hx4).cell (i := 0) rfl; have r1 := (Q3.out.ext hx4).cell (i := 1) rfl; have r2 := (Q3.out.ext hx4).cell (i := 2) rfl; have r3 := (Q3.out.ext hx4).cell (i := 3) rfl; have r4 := (Q3.out.ext hx4).cell (i := 4) rfl; clear hx4)
            | (go_at_call 18; (with_reducible refine (KK.out _ X4.out).mono ?_); rintro e w5 ⟨rfl, hx5⟩; have X5 := hide (X4.out.trans hx5); clear hx5))
          go_ret
          exact ⟨rfl, X5.out⟩
      | false =>
        by_cases hn : nx = 0
        · subst hn
          cases g1 with
          | false =>
            go_wp2_with (first
              | (go_at_call 17; (with_reducible refine (KC.out _).mono ?_); rintro e w4 ⟨rfl, hx4⟩; have X4 := hide (X3.out.trans hx4); have d0 := (R3.out.ext hx4).cell (i := 0) rfl; have d1 := (R3.out.ext hx4).cell (i := 1) rfl; have d2 := (R3.out.ext hx4).cell (i := 2) rfl; have d3 := (R3.out.ext hx4).cell (i := 3) rfl; have d4 := (R3.out.ext hx4).cell (i := 4) rfl; have d5 := (R3.out.ext hx4).cell (i := 5) rfl; have d6 := (R3.out.ext hx4).cell (i := 6) rfl; have d7 := (R3.out.ext hx4).cell (i := 7) rfl; have d8 := (R3.out.ext hx4).cell (i := 8) rfl; have d9 := (R3.out.ext hx4).cell (i := 9) rfl; have r0 := (Q3.out.ext hx4).cell (i := 0) rfl; have r1 := (Q3.out.ext hx4).cell (i := 1) rfl; have r2 := (Q3.out.ext hx4).cell (i := 2) rfl; have r3 := (Q3.out.ext hx4).cell (i := 3) rfl; have r4 := (Q3.out.ext hx4).cell (i := 4) rfl; clear hx4)
              | (go_at_call 18; (with_reducible refine (KK.out _ X4.out).mono ?_); rintro e w5 ⟨rfl, hx5⟩; have X5 := hide (X4.out.trans hx5); clear hx5))
            go_ret
            exact ⟨rfl, X4.out⟩
          | true =>
            go_wp2_with (first
              | (go_at_call 17; (with_reducible refine (KC.out _).mono ?_); rintro e w4 ⟨rfl, hx4⟩; have X4 := hide (X3.out.trans hx4); have d0 := (R3.out.ext hx4).cell (i := 0) rfl; have d1 := (R3.out.ext hx4).cell (i := 1) rfl; have d2 := (R3.out.ext hx4).cell (i := 2) rfl; have d3 := (R3.out.ext hx4).cell (i := 3) rfl; have d4 := (R3.out.ext hx4).cell (i := 4) rfl; have d5 := (R3.out.ext hx4).cell (i := 5) rfl; have d6 := (R3.out.ext hx4).cell (i := 6) rfl; have d7 := (R3.out.ext hx4).cell (i := 7) rfl; have d8 := (R3.out.ext hx4).cell (i := 8) rfl; have d9 := (R3.out.ext hx4).cell (i := 9) rfl; have r0 := (Q3.out.ext hx4).cell (i := 0) rfl; have r1 := (Q3.out.ext hx4).cell (i := 1) rfl; have r2 := (Q3.out.ext hx4).cell (i := 2) rfl; have r3 := (Q3.out.ext hx4).cell (i := 3) rfl; have r4 := (Q3.out.ext hx4).cell (i := 4) rfl; clear hx4)
              | (go_at_call 18; (with_reducible refine (KK.out _ X4.out).mono ?_); rintro e w5 ⟨rfl, hx5⟩; have X5 := hide (X4.out.trans hx5); clear hx5))
            go_ret
            exact ⟨rfl, X5.out⟩
        · have en : (nx == 0) = false := by simp [hn]
          go_wp2_with (first
            | (go_at_call 17; (with_reducible refine (KC.out _).mono ?_); rintro e w4 ⟨rfl, hx4⟩; have X4 := hide (X3.out.trans hx4); have d0 := (R3.out.ext hx4).cell (i := 0) rfl; have d1 := (R3.out.ext hx4).cell (i := 1) rfl; have d2 := (R3.out.ext hx4).cell (i := 2) rfl; have d3 := (R3.out.ext hx4).cell (i := 3) rfl; have d4 := (R3.out.ext hx4).cell (i := 4) rfl; have d5 := (R3.out.ext hx4).cell (i := 5) rfl; have d6 := (R3.out.ext hx4).cell (i := 6) rfl; have d7 := (R3.out.ext hx4).cell (i := 7) rfl; have d8 := (R3.out.ext hx4).cell (i := 8) rfl; have d9 := (R3.out.ext hx4).cell (i := 9) rfl; have r0 := (Q3.out.ext hx4).cell (i := 0) rfl; have r1 := (Q3.out.ext hx4).cell (i := 1) rfl; have r2 := (Q3.out.ext hx4).cell (i := 2) rfl; have r3 := (Q3.out.ext hx4).cell (i := 3) rfl; have r4 := (Q3.out.ext hx4).cell (i := 4) rfl; clear hx4)
            | (go_at_call 18; (with_reducible refine (KK.out _ X4.out).mono ?_); rintro e w5 ⟨rfl, hx5⟩; have X5 := hide (X4.out.trans hx5); clear hx5))
          go_ret
          exact ⟨by rw [en]; rfl, X3.out⟩
    | false =>
      by_cases hp : pv = 0
      · subst hp
        cases n with
        | true =>
          cases g1 with
          | false =>
            go_wp2_with (first
              | (go_at_call 17; (with_reducible refine (KC.out _).mono ?_); rintro e w4 ⟨rfl, hx4⟩; have X4 := hide (X3.out.trans hx4); have d0 := (R3.out.ext hx4).cell (i := 0) rfl; have d1 := (R3.out.ext hx4).cell (i := 1) rfl; have d2 := (R3.out.ext hx4).cell (i := 2) rfl; have d3 := (R3.out.ext hx4).cell (i := 3) rfl; have d4 := (R3.out.ext hx4).cell (i := 4) rfl; have d5 := (R3.out.ext hx4).cell (i := 5) rfl; have d6 := (R3.out.ext hx4).cell (i := 6) rfl; have d7 := (R3.out.ext hx4).cell (i := 7) rfl; have d8 := (R3.out.ext hx4).cell (i := 8) rfl; have d9 := (R3.out.ext hx4).cell (i := 9) rfl; have r0 := (Q3.out.ext hx4).cell (i := 0) rfl; have r1 := (Q3.out.ext hx4).cell (i := 1) rfl; have r2 := (Q3.out.ext hx4).cell (i := 2) rfl; have r3 := (Q3.out.ext hx4).cell (i := 3) rfl; have r4 := (Q3.out.ext hx4).cell (i := 4) rfl; clear hx4)
              | (go_at_call 18; (with_reducible refine (KK.out _ X4.out).mono ?_); rintro e w5 ⟨rfl, hx5⟩; have X5 := hide (X4.out.trans hx5); clear hx5))
            go_ret
            exact ⟨rfl, X4.out⟩
          | true =>
            go_wp2_with (first
              | (go_at_call 17; (with_reducible refine (KC.out _).mono ?_); rintro e w4 ⟨rfl, hx4⟩; have X4 := hide (X3.out.trans hx4); have d0 := (R3.out.ext hx4).cell (i := 0) rfl; have d1 := (R3.out.ext hx4).cell (i := 1) rfl; have d2 := (R3.out.ext hx4).cell (i := 2) rfl; have d3 := (R3.out.ext hx4).cell (i := 3) rfl; have d4 := (R3.out.ext hx4).cell (i := 4) rfl; have d5 := (R3.out.ext hx4).cell (i := 5) rfl; have d6 := (R3.out.ext hx4).cell (i := 6) rfl; have d7 := (R3.out.ext hx4).cell (i := 7) rfl; have d8 := (R3.out.ext hx4).cell (i := 8) rfl; have d9 := (R3.out.ext hx4).cell (i := 9) rfl; have r0 := (Q3.out.ext hx4).cell (i := 0) rfl; have r1 := (Q3.out.ext hx4).cell (i := 1) rfl; have r2 := (Q3.out.ext hx4).cell (i := 2) rfl; have r3 := (Q3.out.ext hx4).cell (i := 3) rfl; have r4 := (Q3.out.ext hx4).cell (i := 4) rfl; clear hx4)
              | (go_at_call 18; (with_reducible refine (KK.out _ X4.out).mono ?_); rintro e w5 ⟨rfl, hx5⟩; have X5 := hide (X4.out.trans hx5); clear hx5))
            go_ret
            exact ⟨rfl, X5.out⟩
        | false =>
          by_cases hn : nx = 0
          · subst hn
            cases g1 with
            | false =>
              go_wp2_with (first
                | (go_at_call 17; (with_reducible refine (KC.out _).mono ?_); rintro e w4 ⟨rfl, hx4⟩; have X4 := hide (X3.out.trans hx4); have d0 := (R3.out.ext hx4).cell (i := 0) rfl; have d1 := (R3.out.ext hx4).cell (i := 1) rfl; have d2 := (R3.out.ext hx4).cell (i := 2) rfl; have d3 := (R3.out.ext hx4).cell (i := 3) rfl; have d4 := (R3.out.ext hx4).cell (i := 4) rfl; have d5 := (R3.out.ext hx4).cell (i := 5) rfl; have d6 := (R3.out.ext hx4).cell (i := 6) rfl; have d7 := (R3.out.ext hx4).cell (i := 7) rfl; have d8 := (R3.out.ext hx4).cell (i := 8) rfl; have d9 := (R3.out.ext hx4).cell (i := 9) rfl; have r0 := (Q3.out.ext hx4).cell (i := 0) rfl; have r1 := (Q3.out.ext hx4).cell (i := 1) rfl; have r2 := (Q3.out.ext hx4).cell (i := 2) rfl; have r3 := (Q3.out.ext hx4).cell (i := 3) rfl; have r4 := (Q3.out.ext hx4).cell (i := 4) rfl; clear hx4)
                | (go_at_call 18; (with_reducible refine (KK.out _ X4.out).mono ?_); rintro e w5 ⟨rfl, hx5⟩; have X5 := hide (X4.out.trans hx5); clear hx5))
              go_ret
              exact ⟨rfl, X4.out⟩
            | true =>
              go_wp2_with (first
                | (go_at_call 17; (with_reducible refine (KC.out _).mono ?_); rintro e w4 ⟨rfl, hx4⟩; have X4 := hide (X3.out.trans hx4); have d0 := (R3.out.ext hx4).cell (i := 0) rfl; have d1 := (R3.out.ext hx4).cell (i := 1) rfl; have d2 := (R3.out.ext hx4).cell (i := 2) rfl; have d3 := (R3.out.ext hx4).cell (i := 3) rfl; have d4 := (R3.out.ext hx4).cell (i := 4) rfl; have d5 := (R3.out.ext hx4).cell (i := 5) rfl; have d6 := (R3.out.ext hx4).cell (i := 6) rfl; have d7 := (R3.out.ext hx4).cell (i := 7) rfl; have d8 := (R3.out.ext hx4).cell (i := 8) rfl; have d9 := (R3.out.ext hx4).cell (i := 9) rfl; have r0 := (Q3.out.ext hx4).cell (i := 0) rfl; have r1 := (Q3.out.ext hx4).cell (i := 1) rfl; have r2 := (Q3.out.ext hx4).cell (i := 2) rfl; have r3 := (Q3.out.ext hx4).cell (i := 3) rfl; have r4 := (Q3.out.ext hx4).cell (i := 4) rfl; clear hx4)
                | (go_at_call 18; (with_reducible refine (KK.out _ X4.out).mono ?_); rintro e w5 ⟨rfl, hx5⟩; have X5 := hide (X4.out.trans hx5); clear hx5))
              go_ret
              exact ⟨rfl, X5.out⟩
          · have en : (nx == 0) = false := by simp [hn]
            go_wp2_with (first
              | (go_at_call 17; (with_reducible refine (KC.out _).mono ?_); rintro e w4 ⟨rfl, hx4⟩; have X4 := hide (X3.out.trans hx4); have d0 := (R3.out.ext hx4).cell (i := 0) rfl; have d1 := (R3.out.ext hx4).cell (i := 1) rfl; have d2 := (R3.out.ext hx4).cell (i := 2) rfl; have d3 := (R3.out.ext hx4).cell (i := 3) rfl; have d4 := (R3.out.ext hx4).cell (i := 4) rfl; have d5 := (R3.out.ext hx4).cell (i := 5) rfl; have d6 := (R3.out.ext hx4).cell (i := 6) rfl; have d7 := (R3.out.ext hx4).cell (i := 7) rfl; have d8 := (R3.out.ext hx4).cell (i := 8) rfl; have d9 := (R3.out.ext hx4).cell (i := 9) rfl; have r0 := (Q3.out.ext hx4).cell (i := 0) rfl; have r1 := (Q3.out.ext hx4).cell (i := 1) rfl; have r2 := (Q3.out.ext hx4).cell (i := 2) rfl; have r3 := (Q3.out.ext hx4).cell (i := 3) rfl; have r4 := (Q3.out.ext hx4).cell (i := 4) rfl; clear hx4)
              | (go_at_call 18; (with_reducible refine (KK.out _ X4.out).mono ?_); rintro e w5 ⟨rfl, hx5⟩; have X5 := hide (X4.out.trans hx5); clear hx5))
            go_ret
            exact ⟨by rw [en]; rfl, X3.out⟩
      · have ep : (pv == 0) = false := by simp [hp]
        go_wp2_with (first
          | (go_at_call 17; (with_reducible refine (KC.out _).mono ?_); rintro e w4 ⟨rfl, hx4⟩; have X4 := hide (X3.out.trans hx4); have d0 := (R3.out.ext hx4).cell (i := 0) rfl; have d1 := (R3.out.ext hx4).cell (i := 1) rfl; have d2 := (R3.out.ext hx4).cell (i := 2) rfl; have d3 := (R3.out.ext hx4).cell (i := 3) rfl; have d4 := (R3.out.ext hx4).cell (i := 4) rfl; have d5 := (R3.out.ext hx4).cell (i := 5) rfl; have d6 := (R3.out.ext hx4).cell (i := 6) rfl; have d7 := (R3.out.ext hx4).cell (i := 7) rfl; have d8 := (R3.out.ext hx4).cell (i := 8) rfl; have d9 := (R3.out.ext hx4).cell (i := 9) rfl; have r0 := (Q3.out.ext hx4).cell (i := 0) rfl; have r1 := (Q3.out.ext hx4).cell (i := 1) rfl; have r2 := (Q3.out.ext hx4).cell (i := 2) rfl; have r3 := (Q3.out.ext hx4).cell (i := 3) rfl; have r4 := (Q3.out.ext hx4).cell (i := 4) rfl; clear hx4)
          | (go_at_call 18; (with_reducible refine (KK.out _ X4.out).mono ?_); rintro e w5 ⟨rfl, hx5⟩; have X5 := hide (X4.out.trans hx5); clear hx5))
        go_ret
        exact ⟨by rw [ep]; rfl, X3.out⟩
end Go.Proofs.YthdahgekodcloaaDoor
namespace Go.Proofs.YthdahgekodcloaaDoor
open Go.RowKit

set_option maxHeartbeats 400000 in
theorem uint_any (u : Int) (w : World) (h0 : 0 ≤ u) (h1 : u < 18446744073709551616) :
    Calls Tryd.prog 30 #[.int .u64 u] w (Ret w (Bytes (be64 u))) := by
  have hmk : ∀ w, (Instr.makeSlice 23 (.int .i64 8) (.int .i64 8)).run Tryd.prog w = .ok (.slice (some ⟨w.heap.size, 0, none⟩) 8 8) (w.alloc (.cells #[.int .u8 0, .int .u8 0, .int .u8 0, .int .u8 0, .int .u8 0, .int .u8 0, .int .u8 0, .int .u8 0] 5)) := fun _ => by kernel_rfl
  go_enter Tryd.func30, Tryd.ntmps30
  go_wp2
  go_rounds 9
  go_ret
  exact Ret.mk (Ext.alloc _ _) (Bytes.new _ _ _ _ (by rw [be64_cells u h0 h1]) rfl (Nat.le_refl _))

set_option maxHeartbeats 400000 in
theorem ruint_any (u : Int) (w : World) (h0 : 0 ≤ u) (h1 : u < 18446744073709551616) :
    Calls Tryd.prog 24 #[.int .u64 u] w (Ret w (Bytes (be64 u))) := by
  go_enter Tryd.func24, Tryd.ntmps24
  go_wp2
  refine wp_loop_rounds 9 ?_
  have hown : Own w w.heap.size (.slice none 0 0) [] := Own.nil _ _
  have hb : Below w.heap.size w w := Below.refl _ _
  iterate 8
    rw [rounds_succ]
    go_wp2_with (at_builtin; refine wpList_push rfl (.tmp 9) (.tmp 15) rfl w.heap.size _ _ rfl rfl (by assumption) (by omega) (by omega) (Below.size hb) (by simp) ?_; intro v1 w1 hown1 hb1; replace hb := Below.trans hb hb1; clear hb1)
  rw [rounds_succ]
  go_wp2
  go_ret
  refine Ret.mk hb ?_
  have e : be64 u = [] ++ [b8 (u / 72057594037927936)] ++ [b8 (u / 281474976710656 % 256)] ++ [b8 (u / 1099511627776 % 256)] ++ [b8 (u / 4294967296 % 256)] ++
      [b8 (u / 16777216 % 256)] ++ [b8 (u / 65536 % 256)] ++ [b8 (u / 256 % 256)] ++ [b8 (u % 256)] := by
    have e : u / 72057594037927936 % 256 = u / 72057594037927936 := by omega
    simp [be64, e]
  rw [e]
  exact Own.bytes (by assumption)

end Go.Proofs.YthdahgekodcloaaDoor
namespace Go.Proofs.YthdahgekodcloaaDoor
open Go.RowKit

/-- The last n bytes of a number. -/
def numN (n : Nat) (u : Int) : List UInt8 := (be64 u).drop (8 - n)
theorem numN_length (n : Nat) (u : Int) (h : n ≤ 8) : (numN n u).length = n := by rw [numN, List.length_drop, be64_length]; omega
/-- Blocks that aren't bytes stay. -/
def Stay (w w' : World) : Prop := ∀ (g : Nat) (t : TypeId) (vs : List Value), t ≠ 5 → Rw w g t vs → Rw w' g t vs
theorem Stay.ext {w w' : World} (h : Ext w w') : Stay w w' := fun _ _ _ _ hr => hr.ext h
theorem Stay.trans {a b c : World} (h : Stay a b) (k : Stay b c) : Stay a c := fun g t vs ht hr => k g t vs ht (h g t vs ht hr)
/-- What a call leaves that puts bytes behind v. -/
def AddP (w : World) (B : Nat) (l : List UInt8) (e : Ending) (w' : World) : Prop := ∃ v', e = .returned v' ∧ Own w' B v' l ∧ Below B w w' ∧ Stay w w'
theorem own_apartR {w : World} {B g : Nat} {t : TypeId} {v : Value} {l : List UInt8} {vs : List Value} (h : Rw w g t vs) (ht : t ≠ 5) (ho : Own w B v l) : some g ≠ v.ownBlock := fun e => by
  rcases ho.2 with ⟨rfl, _⟩ | ⟨g2, cap, cur, rfl, _, hg, _⟩
  · cases e
  · injection e with e
    subst e
    unfold Rw at h
    rw [hg] at h
    injection h with h
    injection h with _ h2
    exact ht h2.symm
/-- A block of another kind stays. -/
theorem Rw.grown {w w' : World} {B g : Nat} {t : TypeId} {v : Value} {l : List UInt8} {vs : List Value} (h : Rw w g t vs) (ht : t ≠ 5) (ho : Own w B v l) (hg : w.grownBy w' v.ownBlock) : Rw w' g t vs :=
  (hg.block g h.lt (own_apartR h ht ho)).trans h
theorem Ext.below {w0 w w' : World} {B : Nat} (hx : Ext w0 w) (hB : w0.heap.size ≤ B) (hb : Below B w w') : Ext w0 w' := Below.trans hx (hb.mono hB)
section
variable {ops : Array Oper} {rest : List Oper} {o : Oper} {a : Act} {Q : Exit → Act → World → Prop} {w : World}
theorem wpList_catG (hgd : Region.wanted o (yielded ops a.tmps) = true) (s x : Operand) (ho : o.op = .call { callee := .builtin .append, args := #[s, x], argTypes := #[23, 23] })
    (base : Nat) (v : Value) (l m : List UInt8) (A : Option Addr) (n c : Nat) (hs : a.eval s = v) (hx : a.eval x = .slice A n c) (hn : n = m.length) (hown : Own w base v l) (hr : Rd w A m) (hbase : base ≤ w.heap.size) (hlen : l.length + m.length ≤ 140737488355328)
    (h : ∀ v' w', Own w' base v' (l ++ m) → Below base w w' → Stay w w' → wpList Tryd.prog ops Q rest (a.put o.dst v') w') : wpList Tryd.prog ops Q (o :: rest) a w := by
  subst hn
  obtain ⟨v', w', hrun, h2, h4, h3⟩ := run_cat w base o.type v l m A c hown hr hbase hlen
  refine wpList_wanted hgd fun K hK => ?_
  unfold Oper.wp execOp
  simp only [ho, resolve, invoke, builtin, Sem.run_bind, Sem.run_pure, Result.andThen_ok, List.map_toArray, List.map_cons, List.map_nil, hs, hx, hrun]
  exact hK _ _ (h v' w' h2 h4 (fun _ _ _ ht hr => hr.grown ht hown h3))
end
set_option maxHeartbeats 800000 in
theorem appendNumber_1 (v : Value) (l : List UInt8) (u : Int) (B : Nat) (w : World) (ho : Own w B v l) (hB : B ≤ w.heap.size) (h0 : 0 ≤ u) (h1 : u < 18446744073709551616) (hl : l.length ≤ 4398046511104) :
    Calls Tryd.prog 19 #[v, .int .u64 u, .int .i64 1] w (AddP w B (l ++ numN 1 u)) := by
  have KU := hide (fun (W : World) => uint_any u W h0 h1)
  have HO := hide ho
  have HB := hide hB
  have HL := hide hl
  clear ho hB h0 h1 hl
  go_enter Tryd.func19, Tryd.ntmps19
  go_upto_region 2 with (go_at_call 30; (with_reducible refine (KU.out _).mono ?_); rintro e w1 ⟨v1, rfl, hx1, A1, c1, rfl, hc1, hr1⟩; have X1 := hide hx1; have R1 := hide hr1; clear hx1 hr1)
  have hc8 : 8 ≤ c1 := hc1
  have HLN := hide (be64_length u)
  rw [HLN.out]
  obtain ⟨b1, o1, hA1, -⟩ := R1.out (by intro e; have := HLN.out; rw [e] at this; cases this)
  subst hA1
  have RD : Hid (Rd w1 (some ⟨b1, o1 + 7, none⟩) (numN 1 u)) := hide (by have h := R1.out.drop 7; rw [add_flat] at h; exact h)
  have hck : ¬ c1 = 7 := by omega
  have hci : (7 : Int) ≤ (c1 : Int) := by omega
  have hci8 : (8 : Int) ≤ (c1 : Int) := by omega
  clear hc1
  go_wp2_with (refine wpList_catG rfl (.tmp 10) (.tmp 16) rfl B v l (numN 1 u) (some ⟨b1, o1 + 7, none⟩) 1 _ rfl rfl (numN_length _ _ (by decide)).symm (HO.out.ext X1.out) RD.out (Nat.le_trans HB.out X1.out.size) (by rw [numN_length _ _ (by decide)]; have := HL.out; omega) ?_; intro v2 w2 ho2 hb2 hs2)
  go_ret
  exact ⟨v2, rfl, ho2, (Below.mono X1.out HB.out).trans hb2, (Stay.ext X1.out).trans hs2⟩
set_option maxHeartbeats 800000 in
theorem appendNumber_2 (v : Value) (l : List UInt8) (u : Int) (B : Nat) (w : World) (ho : Own w B v l) (hB : B ≤ w.heap.size) (h0 : 0 ≤ u) (h1 : u < 18446744073709551616) (hl : l.length ≤ 4398046511104) :
    Calls Tryd.prog 19 #[v, .int .u64 u, .int .i64 2] w (AddP w B (l ++ numN 2 u)) := by
  have KU := hide (fun (W : World) => uint_any u W h0 h1)
  have HO := hide ho
  have HB := hide hB
  have HL := hide hl
  clear ho hB h0 h1 hl
  go_enter Tryd.func19, Tryd.ntmps19
  go_upto_region 2 with (go_at_call 30; (with_reducible refine (KU.out _).mono ?_); rintro e w1 ⟨v1, rfl, hx1, A1, c1, rfl, hc1, hr1⟩; have X1 := hide hx1; have R1 := hide hr1; clear hx1 hr1)
  have hc8 : 8 ≤ c1 := hc1
  have HLN := hide (be64_length u)
  rw [HLN.out]
  obtain ⟨b1, o1, hA1, -⟩ := R1.out (by intro e; have := HLN.out; rw [e] at this; cases this)
  subst hA1
  have RD : Hid (Rd w1 (some ⟨b1, o1 + 6, none⟩) (numN 2 u)) := hide (by have h := R1.out.drop 6; rw [add_flat] at h; exact h)
  have hck : ¬ c1 = 6 := by omega
  have hci : (6 : Int) ≤ (c1 : Int) := by omega
  have hci8 : (8 : Int) ≤ (c1 : Int) := by omega
  clear hc1
  go_wp2_with (refine wpList_catG rfl (.tmp 10) (.tmp 16) rfl B v l (numN 2 u) (some ⟨b1, o1 + 6, none⟩) 2 _ rfl rfl (numN_length _ _ (by decide)).symm (HO.out.ext X1.out) RD.out (Nat.le_trans HB.out X1.out.size) (by rw [numN_length _ _ (by decide)]; have := HL.out; omega) ?_; intro v2 w2 ho2 hb2 hs2)
  go_ret
  exact ⟨v2, rfl, ho2, (Below.mono X1.out HB.out).trans hb2, (Stay.ext X1.out).trans hs2⟩
set_option maxHeartbeats 800000 in
theorem appendNumber_4 (v : Value) (l : List UInt8) (u : Int) (B : Nat) (w : World) (ho : Own w B v l) (hB : B ≤ w.heap.size) (h0 : 0 ≤ u) (h1 : u < 18446744073709551616) (hl : l.length ≤ 4398046511104) :
    Calls Tryd.prog 19 #[v, .int .u64 u, .int .i64 4] w (AddP w B (l ++ numN 4 u)) := by
  have KU := hide (fun (W : World) => uint_any u W h0 h1)
  have HO := hide ho
  have HB := hide hB
  have HL := hide hl
  clear ho hB h0 h1 hl
  go_enter Tryd.func19, Tryd.ntmps19
  go_upto_region 2 with (go_at_call 30; (with_reducible refine (KU.out _).mono ?_); rintro e w1 ⟨v1, rfl, hx1, A1, c1, rfl, hc1, hr1⟩; have X1 := hide hx1; have R1 := hide hr1; clear hx1 hr1)
  have hc8 : 8 ≤ c1 := hc1
  have HLN := hide (be64_length u)
  rw [HLN.out]
  obtain ⟨b1, o1, hA1, -⟩ := R1.out (by intro e; have := HLN.out; rw [e] at this; cases this)
  subst hA1
  have RD : Hid (Rd w1 (some ⟨b1, o1 + 4, none⟩) (numN 4 u)) := hide (by have h := R1.out.drop 4; rw [add_flat] at h; exact h)
  have hck : ¬ c1 = 4 := by omega
  have hci : (4 : Int) ≤ (c1 : Int) := by omega
  have hci8 : (8 : Int) ≤ (c1 : Int) := by omega
  clear hc1
  go_wp2_with (refine wpList_catG rfl (.tmp 10) (.tmp 16) rfl B v l (numN 4 u) (some ⟨b1, o1 + 4, none⟩) 4 _ rfl rfl (numN_length _ _ (by decide)).symm (HO.out.ext X1.out) RD.out (Nat.le_trans HB.out X1.out.size) (by rw [numN_length _ _ (by decide)]; have := HL.out; omega) ?_; intro v2 w2 ho2 hb2 hs2)
  go_ret
  exact ⟨v2, rfl, ho2, (Below.mono X1.out HB.out).trans hb2, (Stay.ext X1.out).trans hs2⟩
set_option maxHeartbeats 800000 in
theorem appendNumber_8 (v : Value) (l : List UInt8) (u : Int) (B : Nat) (w : World) (ho : Own w B v l) (hB : B ≤ w.heap.size) (h0 : 0 ≤ u) (h1 : u < 18446744073709551616) (hl : l.length ≤ 4398046511104) :
    Calls Tryd.prog 19 #[v, .int .u64 u, .int .i64 8] w (AddP w B (l ++ numN 8 u)) := by
  have KU := hide (fun (W : World) => uint_any u W h0 h1)
  have HO := hide ho
  have HB := hide hB
  have HL := hide hl
  clear ho hB h0 h1 hl
  go_enter Tryd.func19, Tryd.ntmps19
  go_upto_region 2 with (go_at_call 30; (with_reducible refine (KU.out _).mono ?_); rintro e w1 ⟨v1, rfl, hx1, A1, c1, rfl, hc1, hr1⟩; have X1 := hide hx1; have R1 := hide hr1; clear hx1 hr1)
  have hc8 : 8 ≤ c1 := hc1
  have HLN := hide (be64_length u)
  rw [HLN.out]
  obtain ⟨b1, o1, hA1, -⟩ := R1.out (by intro e; have := HLN.out; rw [e] at this; cases this)
  subst hA1
  have RD : Hid (Rd w1 (some ⟨b1, o1 + 0, none⟩) (numN 8 u)) := hide (by have h := R1.out.drop 0; rw [add_flat] at h; exact h)
  have hck : ¬ c1 = 0 := by omega
  have hci : (0 : Int) ≤ (c1 : Int) := by omega
  have hci8 : (8 : Int) ≤ (c1 : Int) := by omega
  clear hc1
  go_wp2_with (refine wpList_catG rfl (.tmp 10) (.tmp 16) rfl B v l (numN 8 u) (some ⟨b1, o1 + 0, none⟩) 8 _ rfl rfl (numN_length _ _ (by decide)).symm (HO.out.ext X1.out) RD.out (Nat.le_trans HB.out X1.out.size) (by rw [numN_length _ _ (by decide)]; have := HL.out; omega) ?_; intro v2 w2 ho2 hb2 hs2)
  go_ret
  exact ⟨v2, rfl, ho2, (Below.mono X1.out HB.out).trans hb2, (Stay.ext X1.out).trans hs2⟩
/-- A record's sum. -/
def sumB (l : List UInt8) : List UInt8 := numN 4 (crc l : Int)
theorem crc_lt (l : List UInt8) : (crc l : Int) < 18446744073709551616 := by unfold crc; omega
set_option maxHeartbeats 800000 in
theorem sumOf_any (A : Option Addr) (l : List UInt8) (n c : Nat) (w : World) (hr : Rd w A l) (hn : l.length = n) (hl : n ≤ 140737488355328) (ht : Tab w) :
    Calls Tryd.prog 21 #[.slice A n c] w (Ret w (fun w' v => Own w' w.heap.size v (sumB l))) := by
  subst hn
  have KS := hide (sum_any A c l w hr hl ht)
  obtain ⟨s, HS⟩ : ∃ s : Nat, Hid (crc l = s) := ⟨_, hide rfl⟩
  have HSL : Hid ((s : Int) < 18446744073709551616) := hide (by rw [← HS.out]; exact crc_lt l)
  have HSB : Hid (numN 4 (s : Int) = sumB l) := hide (by rw [← HS.out]; rfl)
  rw [HS.out] at KS
  have hs32 : IntKind.u64.wrap (s : Int) = (s : Int) := by rw [IntKind.wrap_u64]; have := HSL.out; omega
  clear hr hl ht
  obtain ⟨n, HN⟩ : ∃ n, Hid (l.length = n) := ⟨_, hide rfl⟩
  rw [HN.out] at KS ⊢
  go_enter Tryd.func21, Tryd.ntmps21
  go_wp2_with (first
    | (go_at_call 31; (with_reducible refine KS.out.mono ?_); rintro e w1 ⟨v1, rfl, hx1, rfl⟩; have X1 := hide hx1; clear hx1)
    | (go_at_call 19; have KA := appendNumber_4 (.slice none 0 0) [] (s : Int) w.heap.size _ (Own.nil _ _) X1.out.size (by omega) HSL.out (by simp); (with_reducible refine KA.mono ?_); rintro e w2 ⟨v2, rfl, ho2, hb2, -⟩; have O2 := hide ho2; have B2 := hide hb2; clear ho2 hb2 KA))
  go_ret
  refine Ret.mk (X1.out.below (Nat.le_refl _) B2.out) ?_
  rw [← HSB.out]
  exact O2.out
end Go.Proofs.YthdahgekodcloaaDoor
namespace Go.Proofs.YthdahgekodcloaaDoor
open Go.RowKit

theorem run_eql_nil {P : Program} (w : World) (t e : TypeId) (a : Option Addr) (l c : Nat) (h : P.underlying t = some (.slice e)) : (binOp .eql t (.slice a l c) (.slice none 0 0)).run P w = .ok (.bool a.isNone) w := by
  simp only [binOp]
  simp [run_equal_slice_nil w t e a l c h]
theorem Own.empty (w : World) : Own (w.alloc (.cells #[] 5)) w.heap.size (.slice (some ⟨w.heap.size, 0, none⟩) 0 0) [] :=
  ⟨rfl, .inr ⟨w.heap.size, 0, #[], rfl, Nat.le_refl _, heap_alloc_new w _, Nat.le_refl _, by unfold maxLen; decide, rfl, rfl⟩⟩
/-- It stays, if just blocks below turn. -/
theorem Own.farB {w : World} {B : Nat} {v : Value} {l : List UInt8} (h : Own w B v l) {g : Nat} (hg : g < B) (i : Nat) (u : Value) : Own (w.setCell ⟨g, i, none⟩ u) B v l := by
  refine ⟨h.1, ?_⟩
  rcases h.2 with hn | ⟨g', cap, cur, rfl, hb, hg', rest⟩
  · exact .inl hn
  · exact .inr ⟨g', cap, cur, rfl, hb, (Below.heap_setCell w ⟨g, i, none⟩ u g' (by show g' ≠ g; omega)).trans hg', rest⟩
set_option maxRecDepth 20000 in
set_option maxHeartbeats 800000 in
theorem clone_any (A : Option Addr) (l : List UInt8) (n c : Nat) (w : World) (hr : Rd w A l) (hn : l.length = n) (hl : n ≤ 140737488351232) : Calls Tryd.prog 35 #[.slice A n c] w (Ret w (fun w' v => Own w' w.heap.size v l)) := by
  rcases A with _ | a
  · have hl : l = [] := by
      cases l with
      | nil => rfl
      | cons x xs => obtain ⟨_, _, hA, _⟩ := hr (by simp); cases hA
    subst hl
    clear hr
    have hq := fun (W : World) => run_eql_nil (P := Tryd.prog) W 23 5 none n c Tryd.underlying23
    go_enter Tryd.func35, Tryd.ntmps35
    go_wp2
    go_ret
    exact Ret.mk (Ext.refl _) (Own.nil _ _)
  · have HR := hide hr
    have HL := hide hl
    have hq := fun (W : World) => run_eql_nil (P := Tryd.prog) W 23 5 (some a) n c Tryd.underlying23
    clear hr hl
    go_enter Tryd.func35, Tryd.ntmps35
    go_wp2_with (at_builtin; refine wpList_cat rfl (.tmp 5) (.tmp 6) rfl w.heap.size _ [] l _ n c rfl rfl hn.symm (Own.empty w) (HR.out.ext (Ext.alloc _ _)) (by simp) (by rw [List.length_nil, hn]; have := HL.out; omega) ?_; intro v2 w2 hown hb; rw [List.nil_append] at hown; have O2 := hide hown; have X2 : Hid (Ext w w2) := hide (Below.trans (Ext.alloc w _) hb); clear hown hb)
    go_ret
    exact Ret.mk X2.out O2.out
end Go.Proofs.YthdahgekodcloaaDoor
namespace Go.Proofs.YthdahgekodcloaaDoor
open Go.RowKit

/-- What is taken from the front of the bytes that are left. -/
def tk (n : Nat) (st : List UInt8 × Bool) : List UInt8 × (List UInt8 × Bool) := if st.1.length < n then ([], ([], true)) else (st.1.take n, (st.1.drop n, st.2))
/-- A reader's block; the bytes that are left lie where they lay in w0. -/
structure RdrAt (w0 w : World) (g : Nat) (st : List UInt8 × Bool) : Prop where
  out : ∃ A c, Rw w g 54 [.slice A st.1.length c, .bool st.2] ∧ st.1.length ≤ c ∧ ((A = none ∧ st.1 = [] ∧ c = 0) ∨ ∃ b off, A = some ⟨b, off, none⟩ ∧ ∀ j u, st.1[j]? = some u → w0.cell? ⟨b, off + j, none⟩ = some (.int .u8 (u.toNat : Int)))
theorem RdrAt.lt {w0 w : World} {g : Nat} {st : List UInt8 × Bool} (h : RdrAt w0 w g st) : g < w.heap.size := by
  obtain ⟨A, c, hr, _⟩ := h.out
  exact hr.lt
theorem RdrAt.same {w0 w w' : World} {g : Nat} {st : List UInt8 × Bool} (h : RdrAt w0 w g st) (hx : w'.heap[g]? = w.heap[g]?) : RdrAt w0 w' g st := by
  obtain ⟨A, c, hr, hc, ha⟩ := h.out
  exact ⟨A, c, hx.trans hr, hc, ha⟩
theorem RdrAt.ext {w0 w w' : World} {g : Nat} {st : List UInt8 × Bool} (h : RdrAt w0 w g st) (hx : Ext w w') : RdrAt w0 w' g st := h.same (hx.block g h.lt)
/-- What a call of the reader leaves beside its answer. -/
def RdrP (w0 w : World) (g : Nat) (st : List UInt8 × Bool) (S : World → Value → Prop) (e : Ending) (w' : World) : Prop := ∃ v, e = .returned v ∧ S w' v ∧ RdrAt w0 w' g st ∧ w.grownBy w' (some g)
theorem grown_set {w w1 : World} {g i : Nat} {v : Value} (h : w.grownBy w1 (some g)) : w.grownBy (w1.setCell ⟨g, i, none⟩ v) (some g) :=
  ⟨h.os, h.tape, h.output, Nat.le_trans h.size (by simp [World.setCell]), fun k hk hne => (Below.heap_setCell w1 ⟨g, i, none⟩ v k (fun e => hne (by rw [e]))).trans (h.block k hk hne)⟩
theorem grown_of_ext {w w' : World} (h : Ext w w') (r : Option Nat) : w.grownBy w' r := ⟨h.os, h.tape, h.output, h.size, fun k hk _ => h.block k hk⟩
set_option maxRecDepth 20000 in
set_option maxHeartbeats 1600000 in
theorem take_any (g n : Nat) (l : List UInt8) (s : Bool) (w0 w : World) (hx : Ext w0 w) (h : RdrAt w0 w g (l, s)) (hl : l.length ≤ 140737488351232) :
    Calls Tryd.prog 33 #[.pointer (some ⟨g, 0, none⟩), .int .i64 (n : Int)] w (RdrP w0 w g (tk n (l, s)).2 (fun w' v => Own w' w.heap.size v (tk n (l, s)).1)) := by
  obtain ⟨A, c, hr, hc, ha⟩ := h.out
  have hc : l.length ≤ c := hc
  obtain ⟨m, HM⟩ : ∃ m, Hid (l.length = m) := ⟨_, hide rfl⟩
  have hr : Rw w g 54 [.slice A l.length c, .bool s] := hr
  rw [HM.out] at hr hc hl
  have c0 := hr.cell (i := 0) rfl
  have c1 := hr.cell (i := 1) rfl
  have f0 := hr.frozen 0
  have f1 := hr.frozen 1
  have HR := hide hr
  by_cases hs : m < n
  · have hsi : (m : Int) < (n : Int) := by omega
    have e : tk n (l, s) = ([], ([], true)) := by unfold tk; rw [if_pos (by show l.length < n; rw [HM.out]; exact hs)]
    rw [e]
    clear e hr h ha hs
    go_enter Tryd.func33, Tryd.ntmps33
    go_wp2
    go_ret
    exact ⟨_, rfl, Own.nil _ _, ⟨none, 0, (HR.out.set 0 _).set 1 _, Nat.le_refl _, .inl ⟨rfl, rfl, rfl⟩⟩, grown_set (grown_set (grown_of_ext (Ext.refl w) _))⟩
  · have hsi : ¬ (m : Int) < (n : Int) := by omega
    have hmn : (n : Int) ≤ (m : Int) := by omega
    have hnc : (n : Int) ≤ (c : Int) := by omega
    have hmc : (m : Int) ≤ (c : Int) := by omega
    have hni : (n : Int) ≤ 140737488351232 := by omega
    have e : tk n (l, s) = (l.take n, (l.drop n, s)) := by unfold tk; rw [if_neg (by show ¬ l.length < n; rw [HM.out]; exact hs)]
    rw [e]
    clear e
    rcases ha with ⟨rfl, hl0, rfl⟩ | ⟨b, off, rfl, hj⟩
    · have hl0 : l = [] := hl0
      have hm0 : m = 0 := by rw [← HM.out, hl0]; rfl
      obtain rfl : n = 0 := by omega
      subst hm0 hl0
      have KC := hide (fun (W : World) => clone_any none [] 0 0 W (Rd.nil _ _) rfl (by omega))
      clear hr h c0 c1 f0 f1 hsi hmn hnc hmc hni hs hl hc
      have c0 := HR.out.cell (i := 0) rfl
      have c1 := HR.out.cell (i := 1) rfl
      go_enter Tryd.func33, Tryd.ntmps33
      go_upto_region 6 with (go_at_call 35; (with_reducible refine (KC.out _).mono ?_); rintro e w2 ⟨v2, rfl, hx2, ho2⟩; have X2 := hide hx2; have O2 := hide ho2; have R2 := hide (HR.out.ext hx2); clear hx2 ho2)
      clear c0 c1
      have c0 := R2.out.cell (i := 0) rfl
      have f0 := R2.out.frozen 0
      go_wp2
      go_ret
      exact ⟨v2, rfl, O2.out.farB HR.out.lt 0 _, ⟨none, 0, R2.out.set 0 _, Nat.le_refl _, .inl ⟨rfl, rfl, rfl⟩⟩, grown_set (grown_of_ext X2.out _)⟩
    · have RL : Hid (Rd w (some ⟨b, off, none⟩) (l.take n)) := hide (((show Rd w0 (some ⟨b, off, none⟩) l from fun _ => ⟨b, off, rfl, hj⟩).ext hx).take n)
      have HTL : Hid ((l.take n).length = n) := hide (by rw [List.length_take, HM.out]; omega)
      have HDL : Hid ((l.drop n).length = m - n) := hide (by rw [List.length_drop, HM.out])
      have KC := hide (fun (W : World) => clone_any (some ⟨b, off, none⟩) (l.take n) n c W)
      have HJ := hide hj
      have HHC := hide hc
      clear hr h hs hj hl hx
      by_cases hcn : c = n
      · obtain rfl : c = m := by have := HHC.out; omega
        subst hcn
        go_enter Tryd.func33, Tryd.ntmps33
        go_upto_region 6 with (go_at_call 35; (with_reducible refine (KC.out _ RL.out HTL.out (by omega)).mono ?_); rintro e w2 ⟨v2, rfl, hx2, ho2⟩; have X2 := hide hx2; have O2 := hide ho2; have R2 := hide (HR.out.ext hx2); clear hx2 ho2)
        clear c0 c1 f0 f1
        have c0 := R2.out.cell (i := 0) rfl
        have f0 := R2.out.frozen 0
        go_wp2
        go_ret
        refine ⟨v2, rfl, O2.out.farB HR.out.lt 0 _, ⟨some ⟨b, off, none⟩, 0, ?_, ?_, .inr ⟨b, off, rfl, fun j u hu => ?_⟩⟩, grown_set (grown_of_ext X2.out _)⟩
        · show Rw _ _ _ [.slice _ (l.drop c).length _, _]
          rw [HDL.out, Nat.sub_self]
          exact R2.out.set 0 _
        · show (l.drop c).length ≤ 0
          rw [HDL.out]; omega
        · have hu : (l.drop c)[j]? = some u := hu
          rw [List.drop_eq_nil_of_le (by rw [HM.out]; exact Nat.le_refl _)] at hu
          cases hu
      · have hcn2 : ¬ c = n := hcn
        go_enter Tryd.func33, Tryd.ntmps33
        go_upto_region 6 with (go_at_call 35; (with_reducible refine (KC.out _ RL.out HTL.out (by omega)).mono ?_); rintro e w2 ⟨v2, rfl, hx2, ho2⟩; have X2 := hide hx2; have O2 := hide ho2; have R2 := hide (HR.out.ext hx2); clear hx2 ho2)
        clear c0 c1 f0 f1
        have c0 := R2.out.cell (i := 0) rfl
        have f0 := R2.out.frozen 0
        go_wp2
        go_ret
        refine ⟨v2, rfl, O2.out.farB HR.out.lt 0 _, ⟨some ⟨b, off + n, none⟩, c - n, ?_, ?_, .inr ⟨b, off + n, rfl, fun j u hu => ?_⟩⟩, grown_set (grown_of_ext X2.out _)⟩
        · show Rw _ _ _ [.slice _ (l.drop n).length _, _]
          rw [HDL.out]
          exact R2.out.set 0 _
        · show (l.drop n).length ≤ c - n
          rw [HDL.out]; have := HHC.out; omega
        · have hu : (l.drop n)[j]? = some u := hu
          rw [List.getElem?_drop] at hu
          rw [Nat.add_assoc]
          exact HJ.out (n + j) u hu
theorem tk_le (n : Nat) (st : List UInt8 × Bool) : (tk n st).1.length ≤ n := by
  unfold tk
  split
  · exact Nat.zero_le _
  · rw [List.length_take]; omega
theorem tk_left (n : Nat) (st : List UInt8 × Bool) : (tk n st).2.1.length ≤ st.1.length := by
  unfold tk
  split
  · exact Nat.zero_le _
  · show (st.1.drop n).length ≤ _
    rw [List.length_drop]; omega
set_option maxRecDepth 20000 in
set_option maxHeartbeats 1600000 in
theorem number_any (g n : Nat) (st : List UInt8 × Bool) (w0 w : World) (hx : Ext w0 w) (h : RdrAt w0 w g st) (hl : st.1.length ≤ 140737488351232) (hn : n ≤ 8) :
    Calls Tryd.prog 32 #[.pointer (some ⟨g, 0, none⟩), .int .i64 (n : Int)] w (RdrP w0 w g (tk n st).2 (fun _ v => v = .int .u64 (num (tk n st).1))) := by
  have KT := hide (take_any g n st.1 st.2 w0 w hx h hl)
  obtain ⟨t, HT⟩ : ∃ t, Hid ((tk n st).1 = t) := ⟨_, hide rfl⟩
  obtain ⟨s2, HS⟩ : ∃ s, Hid ((tk n st).2 = s) := ⟨_, hide rfl⟩
  have HTL : Hid (t.length ≤ n) := hide (by rw [← HT.out]; exact tk_le n st)
  rw [show (st.1, st.2) = st from rfl, HT.out, HS.out] at KT
  rw [HT.out, HS.out]
  clear h hl hx
  obtain ⟨p, HP⟩ : ∃ p, Hid (t.length = p) := ⟨_, hide rfl⟩
  have hp8 : (p : Int) ≤ 8 := by have := HTL.out; have := HP.out; omega
  go_enter Tryd.func32, Tryd.ntmps32
  go_upto_region 3 with (go_at_call 33; (with_reducible refine KT.out.mono ?_); rintro e w2 ⟨v2, rfl, ho2, hr2, hg2⟩; obtain ⟨At, ct, rfl, -, hrt⟩ := Own.bytes ho2; have RT := hide hrt; have R2 := hide hr2; have G2 := hide hg2; clear hrt hr2 hg2 ho2)
  rw [HP.out]
  go_loop [5, 7, 12] (fun u _ c => ∃ j : Nat, j ≤ p ∧ c = .int .i64 j ∧ u = .int .u64 (num (t.take j))) (fun _ _ c => p - (intOf c).toNat)
  case atStart => exact ⟨0, Nat.zero_le _, rfl, rfl⟩
  case round =>
    obtain ⟨j, hj, rfl, rfl⟩ := hrel
    by_cases hlt : j < p
    · obtain ⟨b, off, x, rfl, hx, hc⟩ := RT.out.at (k := j) (by rw [HP.out]; exact hlt)
      have hb := (num_bound (t.take j)).1
      have HX := hide hx
      have hji : (j : Int) < (p : Int) := by omega
      clear hx
      go_wp2
      refine ⟨⟨j + 1, by omega, by go_num, ?_⟩, by simp [intOf]; omega⟩
      have hb2 := num_take_lt t j (by omega)
      have hx2 := x.toNat_lt
      have hst := num_step t 0 j x (by rw [Nat.zero_add]; exact HX.out)
      rw [List.drop_zero] at hst
      rw [or_byte _ _ hb hb2 (by omega) (by omega), hst]
    · obtain rfl : j = p := by omega
      go_wp2
      go_ret
      exact ⟨_, rfl, by rw [List.take_of_length_le (by rw [HP.out]; exact Nat.le_refl _)]; rfl, R2.out, G2.out⟩
end Go.Proofs.YthdahgekodcloaaDoor
namespace Go.Proofs.YthdahgekodcloaaDoor
open Go.RowKit

def dvs (L : List (Int × Int)) : List Value := L.flatMap fun d => [.int .i64 d.1, .int .u64 d.2]
theorem dvs_append (a b : List (Int × Int)) : dvs (a ++ b) = dvs a ++ dvs b := List.flatMap_append
theorem dvs_get : ∀ (L : List (Int × Int)) (j : Nat) (d : Int × Int), L[j]? = some d → (dvs L)[j * 2]? = some (.int .i64 d.1) ∧ (dvs L)[j * 2 + 1]? = some (.int .u64 d.2)
  | [], _, _, h => by cases h
  | x :: L, 0, d, h => by injection h with h; subst h; exact ⟨rfl, rfl⟩
  | x :: L, j + 1, d, h => by
    have ih := dvs_get L j d h
    have e : dvs (x :: L) = .int .i64 x.1 :: .int .u64 x.2 :: dvs L := rfl
    rw [e, show (j + 1) * 2 = j * 2 + 1 + 1 by omega]
    exact ih
/-- Dirty pages of the call's own. -/
def OwnD (w : World) (B : Nat) (v : Value) (L : List (Int × Int)) : Prop := w.ownsRow B 47 2 v L.length (dvs L)
theorem OwnD.nil (w : World) (B : Nat) : OwnD w B (.slice none 0 0) [] := World.ownsRow_nil _ _ _ _
theorem OwnD.same {w w' : World} {B : Nat} {v : Value} {L : List (Int × Int)} (h : OwnD w B v L) (hx : ∀ k, v.ownBlock = some k → w'.heap[k]? = w.heap[k]?) : OwnD w' B v L := by
  refine ⟨h.1, ?_⟩
  rcases h.2 with hn | ⟨g, cap, cur, rfl, hb, hg, rest⟩
  · exact .inl hn
  · exact .inr ⟨g, cap, cur, rfl, hb, (hx g rfl).trans hg, rest⟩
theorem OwnD.at {w : World} {B : Nat} {v : Value} {L : List (Int × Int)} (h : OwnD w B v L) (k : Nat) (hk : v.ownBlock = some k) : B ≤ k ∧ k < w.heap.size := by
  rcases h.2 with ⟨rfl, _⟩ | ⟨g, cap, cur, rfl, hb, hg, _⟩
  · cases hk
  · injection hk with hk
    subst hk
    exact ⟨hb, (Array.getElem?_eq_some_iff.1 hg).1⟩
theorem OwnD.slice {w : World} {B : Nat} {v : Value} {L : List (Int × Int)} (h : OwnD w B v L) : ∃ A c, v = .slice A L.length c ∧ L.length ≤ c ∧ RdD w A L := by
  rcases h.2 with ⟨rfl, h0⟩ | ⟨g, cap, cur, rfl, hb, hg, hnc, _⟩
  · exact ⟨none, 0, by rw [h0], by rw [h0]; exact Nat.le_refl _, fun hn => absurd (List.length_eq_zero_iff.1 h0) hn⟩
  · refine ⟨_, cap, rfl, hnc, fun _ => ⟨g, 0, rfl, fun j d hj => ?_⟩⟩
    obtain ⟨e1, e2⟩ := dvs_get L j d hj
    have c1 := h.cells (g := g) rfl (j * 2) _ e1
    have c2 := h.cells (g := g) rfl (j * 2 + 1) _ e2
    rw [add_flat] at c1 c2
    exact ⟨c1, c2⟩
theorem info_dirty : (Tryd.prog.info? 47).map (fun i => (i.zero, i.size, i.bytes)) = some (some (.agg #[.int .i64 0, .int .u64 0]), 2, 16) := by kernel_rfl
theorem info_partsD : ∃ i0, Tryd.prog.info? 47 = some i0 ∧ i0.zero = some (.agg #[.int .i64 0, .int .u64 0]) ∧ i0.size = 2 ∧ i0.bytes = 16 := by
  have h := info_dirty
  cases hq : Tryd.prog.info? 47 with
  | none => rw [hq] at h; cases h
  | some i =>
    rw [hq] at h
    simp only [Option.map_some, Option.some.injEq, Prod.mk.injEq] at h
    exact ⟨i, rfl, h.1, h.2.1, h.2.2⟩
theorem append_dr {W : World} {B : Nat} {v : Value} {L : List (Int × Int)} (d : Int × Int) (hown : OwnD W B v L) (hk : L.length ≤ 1000) (hB : B ≤ W.heap.size) (ty : Nat) :
    ∃ A' c' W2, (Builtin.append_ #[24, 24] ty #[v, .slice (some ⟨W.heap.size, 0, none⟩) 1 1]).run Tryd.prog (W.alloc (.cells #[.int .i64 d.1, .int .u64 d.2] 47)) = .ok (.slice A' (L.length + 1) c') W2 ∧
      OwnD W2 B (.slice A' (L.length + 1) c') (L ++ [d]) ∧ (W.alloc (.cells #[.int .i64 d.1, .int .u64 d.2] 47)).grownBy W2 v.ownBlock := by
  obtain ⟨i0, hi, hz, hsz, hby⟩ := info_partsD
  have R := Rw.new W 47 [.int .i64 d.1, .int .u64 d.2]
  have hX := Ext.alloc W (.cells #[.int .i64 d.1, .int .u64 d.2] 47)
  have hown' : OwnD (W.alloc (.cells #[.int .i64 d.1, .int .u64 d.2] 47)) B v L := hown.same fun k hk => hX.block k (hown.at k hk).2
  have hone : ∀ u ∈ [Value.int .i64 d.1, .int .u64 d.2], u.oneCell' = true := by
    intro u hu
    rcases List.mem_cons.1 hu with rfl | hu
    · rfl
    · rw [List.mem_singleton.1 hu]; rfl
  obtain ⟨v', w', hrun, h3, h4, -, -⟩ := run_append_own_at (P := Tryd.prog) (w := W.alloc (.cells #[.int .i64 d.1, .int .u64 d.2] 47)) B 24 ty 47 i0 _ 2 16 Tryd.underlying24 hi hz hsz hby rfl (by decide) v L.length (dvs L) hown' ⟨W.heap.size, 0, none⟩ 1 1 [.int .i64 d.1, .int .u64 d.2] rfl (fun j u hu => by rw [add_flat, Nat.zero_add]; exact R.cell hu) hone (by unfold maxLen; omega) (by omega) (Nat.le_trans hB hX.size)
  obtain ⟨A', c', rfl⟩ : ∃ A' c', v' = .slice A' (L.length + 1) c' := by
    rcases h3.2 with ⟨_, h0⟩ | ⟨g', cap, _, hv, _⟩
    · omega
    · exact ⟨_, _, hv⟩
  refine ⟨A', c', w', hrun, ?_, h4⟩
  unfold OwnD
  rw [dvs_append, List.length_append]
  exact h3
/-- The dirty pages that stand in front. -/
def dirR : Nat → List UInt8 × Bool → List (Int × Int) × (List UInt8 × Bool)
  | 0, st => ([], st)
  | m + 1, st => ((num (tk 2 st).1, num (tk 8 (tk 2 st).2).1) :: (dirR m (tk 8 (tk 2 st).2).2).1, (dirR m (tk 8 (tk 2 st).2).2).2)
theorem build_dr (y z : Int) (W : World) : (Instr.buildSlice 24 1 #[(0, .agg #[.int .i64 y, .int .u64 z])]).run Tryd.prog W = .ok (.slice (some ⟨W.heap.size, 0, none⟩) 1 1) (W.alloc (.cells #[.int .i64 y, .int .u64 z] 47)) := by kernel_rfl
theorem gives_buildSlice {P : Program} {o : Oper} {a : Act} {w : World} {R : Value → World → Prop} {t : TypeId} {n : Nat} {parts : Array (Nat × Operand)} {v : Value} {w' : World} (h : o.op = .buildSlice t n parts) (vs : List (Nat × Value)) (hv : parts.toList.map (fun x => (x.1, a.eval x.2)) = vs)
    (hrun : (Instr.buildSlice t n vs.toArray).run P w = .ok v w') (hR : R v w') : gives P o a w R := by
  refine gives_of_run (w' := w') (v := v) ?_ hR
  have e : (parts.map fun (i, x) => (i, a.eval x)) = vs.toArray := by
    apply Array.ext'
    rw [Array.toList_map]
    exact hv
  unfold execOp
  simp only [h, e, Sem.run_bind, hrun, Result.andThen_ok, Sem.run_pure]
theorem gives_append {P : Program} {o : Oper} {a : Act} {w : World} {R : Value → World → Prop} {s x : Operand} {t : TypeId} {u y v : Value} {w' : World} (h : o.op = .call { callee := .builtin .append, args := #[s, x], argTypes := #[t, t] }) (hs : a.eval s = u) (hx : a.eval x = y)
    (hrun : (Builtin.append_ #[t, t] o.type #[u, y]).run P w = .ok v w') (hR : R v w') : gives P o a w R := by
  refine gives_of_run (w' := w') (v := v) ?_ hR
  unfold execOp
  simp only [h, resolve, invoke, builtin, Sem.run_bind, Sem.run_pure, Result.andThen_ok, List.map_toArray, List.map_cons, List.map_nil, hs, hx, hrun]
theorem step_gives {P : Program} {ops : Array Oper} {o : Oper} {a : Act} {w w' : World} {x : Value} {K : Act → World → Prop} {Q : Exit → Act → World → Prop} {E : Prop} (h : gives P o a w fun v w2 => v = x ∧ w2 = w') (hgd : o.guard = none) (hK : K (a.put o.dst x) w') :
    if Region.wanted o (yielded ops a.tmps) = true then o.wp P a w K Q else E := by
  rw [if_pos (by simp [Region.wanted, hgd])]
  exact wp_of_gives h fun v w2 ⟨hv, hw⟩ => by subst hv hw; exact hK
/-- All blocks but two stay. -/
structure Only2 (g h : Nat) (w w' : World) : Prop where
  os : w'.os = w.os
  tape : w'.tape = w.tape
  output : w'.output = w.output
  size : w.heap.size ≤ w'.heap.size
  block : ∀ k, k < w.heap.size → k ≠ g → k ≠ h → w'.heap[k]? = w.heap[k]?
theorem Only2.refl (g h : Nat) (w : World) : Only2 g h w w := ⟨rfl, rfl, rfl, Nat.le_refl _, fun _ _ _ _ => rfl⟩
theorem Only2.grown {g h : Nat} {w w1 w2 : World} {r : Option Nat} (k : Only2 g h w w1) (hg : w1.grownBy w2 r) (hr : ∀ b, r = some b → b = g ∨ b = h ∨ w.heap.size ≤ b) : Only2 g h w w2 :=
  ⟨hg.os.trans k.os, hg.tape.trans k.tape, hg.output.trans k.output, Nat.le_trans k.size hg.size, fun b hb h1 h2 => (hg.block b (Nat.lt_of_lt_of_le hb k.size) (fun e => by rcases hr b e.symm with h3 | h3 | h3 <;> omega)).trans (k.block b hb h1 h2)⟩
theorem Only2.ext {g h : Nat} {w w1 w2 : World} (k : Only2 g h w w1) (hx : Ext w1 w2) : Only2 g h w w2 := k.grown (grown_of_ext hx none) (fun b h => by cases h)
theorem Only2.set {g h : Nat} {w w1 : World} (k : Only2 g h w w1) (i : Nat) (v : Value) : Only2 g h w (w1.setCell ⟨h, i, none⟩ v) :=
  ⟨k.os, k.tape, k.output, Nat.le_trans k.size (by simp [World.setCell]), fun b hb h1 h2 => (Below.heap_setCell w1 ⟨h, i, none⟩ v b h2).trans (k.block b hb h1 h2)⟩
theorem Only2.ofExt {g h : Nat} {w0 w w' : World} (k : Only2 g h w w') (hx : Ext w0 w) (hg : w0.heap.size ≤ g) (hh : w0.heap.size ≤ h) : Ext w0 w' :=
  ⟨k.os.trans hx.os, k.tape.trans hx.tape, k.output.trans hx.output, Nat.le_trans hx.size k.size, fun b hb => (k.block b (Nat.lt_of_lt_of_le hb hx.size) (by omega) (by omega)).trans (hx.block b hb)⟩
theorem rdr_ne {w0 w : World} {g h : Nat} {st : List UInt8 × Bool} {t : TypeId} {vs : List Value} (hr : RdrAt w0 w g st) (hR : Rw w h t vs) (ht : t ≠ 54) : h ≠ g := fun e => by
  subst e
  obtain ⟨A, c, h1, _⟩ := hr.out
  unfold Rw at h1 hR
  rw [h1] at hR
  injection hR with hR
  injection hR with _ h2
  exact ht h2.symm
theorem num_lt (n : Nat) (st : List UInt8 × Bool) : 0 ≤ num (tk n st).1 ∧ num (tk n st).1 < 256 ^ n := by
  have h := num_bound (tk n st).1
  refine ⟨h.1, Int.lt_of_lt_of_le h.2 ?_⟩
  have h3 : 256 ^ (tk n st).1.length ≤ 256 ^ n := Nat.pow_le_pow_right (by omega) (tk_le n st)
  have h2 : ((256 ^ (tk n st).1.length : Nat) : Int) ≤ ((256 ^ n : Nat) : Int) := Int.ofNat_le.2 h3
  rw [Int.natCast_pow, Int.natCast_pow] at h2
  exact h2
theorem dirR_len : ∀ (m : Nat) (st : List UInt8 × Bool), (dirR m st).1.length = m
  | 0, _ => rfl
  | m + 1, st => by simp only [dirR, List.length_cons, dirR_len m]
theorem number_1 (g : Nat) (st : List UInt8 × Bool) (w0 w : World) (hx : Ext w0 w) (h : RdrAt w0 w g st) (hl : st.1.length ≤ 140737488351232) :
    Calls Tryd.prog 32 #[.pointer (some ⟨g, 0, none⟩), .int .i64 1] w (RdrP w0 w g (tk 1 st).2 (fun _ v => v = .int .u64 (num (tk 1 st).1))) := number_any g 1 st w0 w hx h hl (by decide)
theorem number_2 (g : Nat) (st : List UInt8 × Bool) (w0 w : World) (hx : Ext w0 w) (h : RdrAt w0 w g st) (hl : st.1.length ≤ 140737488351232) :
    Calls Tryd.prog 32 #[.pointer (some ⟨g, 0, none⟩), .int .i64 2] w (RdrP w0 w g (tk 2 st).2 (fun _ v => v = .int .u64 (num (tk 2 st).1))) := number_any g 2 st w0 w hx h hl (by decide)
theorem number_8 (g : Nat) (st : List UInt8 × Bool) (w0 w : World) (hx : Ext w0 w) (h : RdrAt w0 w g st) (hl : st.1.length ≤ 140737488351232) :
    Calls Tryd.prog 32 #[.pointer (some ⟨g, 0, none⟩), .int .i64 8] w (RdrP w0 w g (tk 8 st).2 (fun _ v => v = .int .u64 (num (tk 8 st).1))) := number_any g 8 st w0 w hx h hl (by decide)
end Go.Proofs.YthdahgekodcloaaDoor
