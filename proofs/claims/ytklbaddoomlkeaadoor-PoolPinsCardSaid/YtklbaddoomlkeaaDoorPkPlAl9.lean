/-
  Contracts of the library's functions at this program, laid by the shelf's command in its plain mode.
  The pages that are other than on the disk, rising: changed.
  All pages on the disk, and durable: Flush.
  The pool's way to the disk, plain: what is pending is told, and Flush leaves all durable.
  The law with fewer frames than pages, plain: what holds in each of its rounds.
  The laws' world beside an array of their own; the sectors are walked; Flush and Restart.
  The law's walk over the sectors: no page ahead of its records.
-/
import Derived.Shelf.Small.Bits
import Derived.Shelf.Strconv.Itoa0
import Derived.Shelf.Sort.Plain
import Derived.Shelf.Slices.SearchI
import Derived.Shelf.Slices.In.SortNone
import Derived.Shelf.Bytes.Small
import Derived.Ground.Names2Prog
import Derived.Test.YtklbaddoomlkeaaDoorProg
import Derived.Sort.Grow
import Derived.Laws.AppendOwn
import Derived.Test.YtklbaddoomlkeaaDoorPkPlAl0
import Derived.Test.YtklbaddoomlkeaaDoorPkPlAl2
import Derived.Test.YtklbaddoomlkeaaDoorPkPlAl6
import Derived.Test.YtklbaddoomlkeaaDoorPkPlAl7
import Derived.Test.YtklbaddoomlkeaaDoorPkPlAl8
set_option linter.unusedVariables false
set_option linter.unusedSimpArgs false

namespace Go.Proofs.YtklbaddoomlkeaaDoor
open Go.Shelf
def Tryd.lays189_ren : Go.Shelf.Ren := ⟨fun | 189 => 50 | 125 => 66 | 257 => 65 | 128 => 84 | 129 => 85 | 294 => 75 | 295 => 76 | 296 => 77 | 297 => 78 | 298 => 79 | 299 => 80 | 216 => 81 | 300 => 82 | 301 => 83 | 328 => 87 | 329 => 88 | 330 => 89 | 331 => 90 | 332 => 91 | 215 => 92 | 343 => 93 | n => n, fun | 28 => 75 | 3 => 3 | 46 => 111 | 0 => 0 | 51 => 131 | 53 => 33 | 4 => 4 | 183 => 124 | 182 => 123 | 131 => 109 | 5 => 5 | 9 => 9 | 218 => 134 | 222 => 137 | 228 => 140 | 229 => 141 | n => n, fun | n => n⟩
theorem Tryd.lays189 : Go.Proofs.Lays.n189 Tryd.prog Tryd.lays189_ren := {
  mixed := by kernel_rfl
  f125 := Tryd.func66.trans (congrArg some (by kernel_rfl))
  f128 := Tryd.func84.trans (congrArg some (by kernel_rfl))
  f129 := Tryd.func85.trans (congrArg some (by kernel_rfl))
  f189 := Tryd.func50.trans (congrArg some (by kernel_rfl))
  f215 := Tryd.func92.trans (congrArg some (by kernel_rfl))
  f216 := Tryd.func81.trans (congrArg some (by kernel_rfl))
  f257 := Tryd.func65.trans (congrArg some (by kernel_rfl))
  f294 := Tryd.func75.trans (congrArg some (by kernel_rfl))
  f295 := Tryd.func76.trans (congrArg some (by kernel_rfl))
  f296 := Tryd.func77.trans (congrArg some (by kernel_rfl))
  f297 := Tryd.func78.trans (congrArg some (by kernel_rfl))
  f298 := Tryd.func79.trans (congrArg some (by kernel_rfl))
  f299 := Tryd.func80.trans (congrArg some (by kernel_rfl))
  f300 := Tryd.func82.trans (congrArg some (by kernel_rfl))
  f301 := Tryd.func83.trans (congrArg some (by kernel_rfl))
  f328 := Tryd.func87.trans (congrArg some (by kernel_rfl))
  f329 := Tryd.func88.trans (congrArg some (by kernel_rfl))
  f330 := Tryd.func89.trans (congrArg some (by kernel_rfl))
  f331 := Tryd.func90.trans (congrArg some (by kernel_rfl))
  f332 := Tryd.func91.trans (congrArg some (by kernel_rfl))
  f343 := Tryd.func93.trans (congrArg some (by kernel_rfl))
  t0 := Tryd.underlying0
  a0 := Tryd.isAgg0
  z0 := Tryd.sizeOf0
  v0 := Tryd.zeroValue0
  t3 := Tryd.underlying3
  a3 := Tryd.isAgg3
  z3 := Tryd.sizeOf3
  v3 := Tryd.zeroValue3
  t4 := Tryd.underlying4
  a4 := Tryd.isAgg4
  z4 := Tryd.sizeOf4
  v4 := Tryd.zeroValue4
  t5 := Tryd.underlying5
  a5 := Tryd.isAgg5
  z5 := Tryd.sizeOf5
  v5 := Tryd.zeroValue5
  t9 := Tryd.underlying9
  a9 := Tryd.isAgg9
  z9 := Tryd.sizeOf9
  v9 := Tryd.zeroValue9
  t28 := Tryd.underlying75
  a28 := Tryd.isAgg75
  z28 := Tryd.sizeOf75
  v28 := Tryd.zeroValue75
  t46 := Tryd.underlying111
  a46 := Tryd.isAgg111
  z46 := Tryd.sizeOf111
  v46 := Tryd.zeroValue111
  t51 := Tryd.underlying131
  a51 := Tryd.isAgg131
  z51 := Tryd.sizeOf131
  v51 := Tryd.zeroValue131
  t53 := Tryd.underlying33
  a53 := Tryd.isAgg33
  z53 := Tryd.sizeOf33
  v53 := Tryd.zeroValue33
  t131 := Tryd.underlying109
  a131 := Tryd.isAgg109
  z131 := Tryd.sizeOf109
  v131 := Tryd.zeroValue109
  t182 := Tryd.underlying123
  a182 := Tryd.isAgg123
  z182 := Tryd.sizeOf123
  v182 := Tryd.zeroValue123
  t183 := Tryd.underlying124
  a183 := Tryd.isAgg124
  z183 := Tryd.sizeOf124
  v183 := Tryd.zeroValue124
  t218 := Tryd.underlying134
  a218 := Tryd.isAgg134
  z218 := Tryd.sizeOf134
  v218 := Tryd.zeroValue134
  t222 := Tryd.underlying137
  a222 := Tryd.isAgg137
  z222 := Tryd.sizeOf137
  v222 := Tryd.zeroValue137
  t228 := Tryd.underlying140
  a228 := Tryd.isAgg140
  z228 := Tryd.sizeOf140
  v228 := Tryd.zeroValue140
  t229 := Tryd.underlying141
  a229 := Tryd.isAgg141
  z229 := Tryd.sizeOf141
  v229 := Tryd.zeroValue141 }
open Go.Sort Go.RowKit in
theorem Tryd.slices_Sort_int (blk off cap : Nat) (zs : List Int) (w : World) (hH : Holds (Value.int .i64) w blk off zs.toArray) (hblk : blk < w.heap.size) (hsz : zs.length < 4611686018427387904) :
    Calls Tryd.prog 50 #[.slice (some ⟨blk, off, none⟩) zs.length cap] w fun e w' =>
      e = .returned (.tuple #[]) ∧ ∃ n os, w' = grow (putRow (Value.int .i64) (Sort.ahead w n) blk off (zs.mergeSort fun x y => decide (x ≤ y)).toArray) os := Any.slices_Sort_int Tryd.lays189 blk off cap zs w hH hblk hsz
open Go.RowKit Go.Sort in
/-- .. and plain. (LAID: no walk: one application.) -/
theorem Tryd.slices_Sort_int_none (p : Option Addr) (cap : Nat) (w : World) :
    Calls Tryd.prog 50 #[.slice p 0 cap] w fun e w' => e = .returned (.tuple #[]) ∧ w' = w := Any.slices_Sort_int_none Tryd.lays189 p cap w
end Go.Proofs.YtklbaddoomlkeaaDoor
namespace Go.Proofs.YtklbaddoomlkeaaDoor
open Go.RowKit

def iV (l : List Nat) : List Value := l.map fun (i : Nat) => .int .i64 (i : Int)
theorem iV_len (l : List Nat) : (iV l).length = l.length := by unfold iV; rw [List.length_map]
theorem iV_at {l : List Nat} {j x : Nat} (h : l[j]? = some x) : (iV l)[j]? = some (.int .i64 (x : Int)) := by unfold iV; rw [List.getElem?_map, h]; rfl
/-- The changed pages. -/
structure ChL (P : Pl) (zs : List Nat) : Prop where
  nodup : zs.Nodup
  mem : ∀ i, i ∈ zs ↔ ∃ f, P.H i = some f ∧ f.ch = true
/-- A row of places stands there. -/
def IRow (w : World) (A : Option Addr) (zs : List Nat) : Prop := zs ≠ [] → ∃ g, A = some ⟨g, 0, none⟩ ∧ ∀ (j x : Nat), zs[j]? = some x → w.cell? ⟨g, j, none⟩ = some (.int .i64 (x : Int))
theorem info_int : (Tryd.prog.info? 3).map (fun i => (i.zero, i.size, i.bytes)) = some (some (.int .i64 0), 1, 8) := by kernel_rfl
theorem info_int2 : ∃ i0, Tryd.prog.info? 3 = some i0 ∧ i0.zero = some (.int .i64 0) ∧ i0.size = 1 ∧ i0.bytes = 8 := by
  have h := info_int
  cases hq : Tryd.prog.info? 3 with
  | none => rw [hq] at h; cases h
  | some i =>
    rw [hq] at h
    simp only [Option.map_some, Option.some.injEq, Prod.mk.injEq] at h
    exact ⟨i, rfl, h.1, h.2.1, h.2.2⟩
theorem build_int (b : Int) (W : World) : (Instr.buildSlice 75 1 #[(0, .int .i64 b)]).run Tryd.prog W = .ok (.slice (some ⟨W.heap.size, 0, none⟩) 1 1) (W.alloc (.cells #[.int .i64 b] 3)) := by
  obtain ⟨i0, hi, hz0, hz1, hz2⟩ := info_int2
  refine run_buildSlice W 75 3 1 #[(0, .int .i64 b)] #[.int .i64 b] i0 _ Tryd.underlying75 hi hz0 (by rw [hz1]; decide) (by rw [hz1]; decide) ?_
  rw [hz1]
  have h := Great.fill_whole (s := 1) (by decide) [.int .i64 b] ((Array.range (1 * 1)).map ((Value.int .i64 0).cells[· % (Value.int .i64 0).cells.size]!)) (by intro v hv; rw [List.mem_singleton.1 hv]; rfl) (by rw [Array.size_map, Array.size_range]; rfl)
  exact h
section
variable {ops : Array Oper} {rest : List Oper} {o : Oper} {a : Act} {Q : Exit → Act → World → Prop}
/-- 'v = append(v, i)', one number. -/
theorem wpList_pushI {w0 : World} (hgd : o.guard = none) (s x : Operand) (ho : o.op = .call { callee := .builtin .append, args := #[s, x], argTypes := #[75, 75] })
    (base : Nat) (v : Value) (zs : List Nat) (i : Nat) (hs : a.eval s = v) (hx : a.eval x = .slice (some ⟨w0.heap.size, 0, none⟩) 1 1) (hown : w0.ownsRow base 3 1 v zs.length (iV zs)) (hbase : base ≤ w0.heap.size) (hlen : zs.length < 1000000)
    (h : ∀ v' w', w'.ownsRow base 3 1 v' (zs ++ [i]).length (iV (zs ++ [i])) → w0.grownBy w' v.ownBlock → wpList Tryd.prog ops Q rest (a.put o.dst v') w') : wpList Tryd.prog ops Q (o :: rest) a (w0.alloc (.cells #[.int .i64 (i : Int)] 3)) := by
  obtain ⟨i0, hi, hz, hsz, hby⟩ := info_int2
  have hown' : (w0.alloc (.cells #[.int .i64 (i : Int)] 3)).ownsRow base 3 1 v zs.length (iV zs) := World.ownsRow.alloc hown _
  refine wpList_append_own _ hgd s x 75 ho base 3 i0 (.int .i64 0) 1 8 Tryd.underlying75 hi hz hsz hby rfl (by decide) v zs.length (iV zs) hs hown' ⟨w0.heap.size, 0, none⟩ 1 1 [.int .i64 (i : Int)] hx rfl ?_ ?_ (by unfold maxLen; omega) (by omega) (by simp; omega) ?_
  · intro j u hu
    rw [add_flat, cell_of_row _ w0.heap.size (0 + j) _ 3 (0, 0) (heap_alloc_new w0 _), Nat.zero_add, List.getElem?_toArray, hu]
  · intro u hu
    rw [List.mem_singleton.1 hu]
    rfl
  · intro v' w' h2 h3 _
    refine h v' w' ?_ ⟨h3.os, h3.tape, h3.output, Nat.le_trans (by simp) h3.size, fun k hk hne => (h3.block k (by simp; omega) hne).trans (Below.heap_alloc w0 _ k hk)⟩
    have e : iV (zs ++ [i]) = iV zs ++ [.int .i64 (i : Int)] := by unfold iV; rw [List.map_append]; rfl
    rw [e, List.length_append]
    exact h2
end
section
variable {w : World} {B : Nat} {v : Value} {zs : List Nat}
open Go.Sort in
theorem sort_any (h : w.ownsRow B 3 1 v zs.length (iV zs)) (hl : zs.length < 1000000) : Calls Tryd.prog 50 #[v] w (fun e w' => e = .returned (.tuple #[]) ∧ w.grownBy w' v.ownBlock ∧ ∃ A cc zs', v = .slice A zs'.length cc ∧ zs'.Perm zs ∧ IRow w' A zs' ∧ ∀ a, A = some a → v.ownBlock = some a.block) := by
  have h0 := h
  rcases h.2 with ⟨rfl, hn⟩ | ⟨g, cap, cur, rfl, hg, hb, -⟩
  · refine (Tryd.slices_Sort_int_none none 0 w).mono fun e w' hh => ?_
    obtain ⟨rfl, rfl⟩ := hh
    have hz : zs = [] := List.eq_nil_of_length_eq_zero hn
    subst hz
    exact ⟨rfl, ⟨rfl, rfl, rfl, Nat.le_refl _, fun _ _ _ => rfl⟩, none, 0, [], rfl, List.Perm.refl _, fun hne => absurd rfl hne, fun a ha => by cases ha⟩
  · have hlt : g < w.heap.size := (Array.getElem?_eq_some_iff.1 hb).1
    have hH : Holds (Value.int .i64) w g 0 (zs.map Int.ofNat).toArray := fun j hj => by
      have hj' : j < zs.length := by simpa using hj
      have hz : zs[j]? = some zs[j] := List.getElem?_eq_getElem hj'
      obtain ⟨k1, k2⟩ := own_cell h0 (iV_at hz)
      rw [Nat.zero_add]
      refine ⟨?_, k2⟩
      rw [k1, getElem!_pos _ j hj]
      simp
    have hlen : (zs.map Int.ofNat).length = zs.length := by rw [List.length_map]
    have k := Tryd.slices_Sort_int g 0 cap (zs.map Int.ofNat) w hH hlt (by rw [hlen]; omega)
    rw [hlen] at k
    refine k.mono fun e w' hh => ?_
    obtain ⟨rfl, n, os, rfl⟩ := hh
    have hsort : (zs.map Int.ofNat).mergeSort (fun x y => decide (x ≤ y)) = (zs.mergeSort (fun x y => decide (x ≤ y))).map Int.ofNat := by
      rw [List.map_mergeSort (s := fun x y => decide (x ≤ y))]
      intro a _ b _
      simp
    have hpl : (zs.mergeSort (fun x y => decide (x ≤ y))).length = zs.length := (List.mergeSort_perm _ _).length_eq
    rw [hsort]
    refine ⟨rfl, ⟨rfl, rfl, rfl, by simp, fun j hj hne => ?_⟩, some ⟨g, 0, none⟩, cap, zs.mergeSort (fun x y => decide (x ≤ y)), by rw [hpl], List.mergeSort_perm _ _, fun _ => ⟨g, rfl, fun j x hx => ?_⟩, fun a ha => by injection ha with ha; rw [← ha]; rfl⟩
    · have hjg : g ≠ j := fun e => hne (by rw [e]; rfl)
      rw [heap_grow_old _ _ (by simpa using hj)]
      show (w.heap.modify g _)[j]? = w.heap[j]?
      rw [Array.getElem?_modify, if_neg hjg]
    · rw [cell?_grow _ _ _ (by simpa using hlt)]
      have hj : j < (zs.mergeSort (fun x y => decide (x ≤ y))).length := (List.getElem?_eq_some_iff.1 hx).1
      have hc := cell?_putRow (Value.int .i64) (Go.Sort.ahead w n) g 0 (zs.map Int.ofNat).toArray ((zs.mergeSort (fun x y => decide (x ≤ y))).map Int.ofNat).toArray hH (by simp [hpl]) j (by simpa using hj)
      rw [Nat.zero_add] at hc
      rw [hc, getElem!_pos _ j (by simpa using hj)]
      have hx2 := (List.getElem?_eq_some_iff.1 hx).2
      simp [hx2]
end
section
variable {w0 w : World} {Z : Pk} {D : Dk} {L : Lg} {P : Pl}
def ChP (P : Pl) (w : World) (e : Ending) (w' : World) : Prop := ∃ A cc zs, e = .returned (.slice A zs.length cc) ∧ ChL P zs ∧ zs.length ≤ P.n ∧ Ext w w' ∧ IRow w' A zs ∧ ∀ a, A = some a → w.heap.size ≤ a.block ∧ a.block < w'.heap.size
/-- How far it is. -/
structure ChR (P : Pl) (left : Lit → Bool) (cnt C : Nat) (zs : List Nat) : Prop where
  nodup : zs.Nodup
  mem : ∀ i, i ∈ zs ↔ (∃ f, P.H i = some f ∧ f.ch = true) ∧ left (ik i) = false
  cnt : zs.length + cnt ≤ C
set_option maxRecDepth 20000 in
set_option maxHeartbeats 3200000 in
theorem changed_any {nd : Nat} (h : PlAt w0 w Z D L P) (ok : P.Ok nd) : Calls Tryd.prog 32 #[.pointer (some ⟨Z.q, 0, none⟩)] w (ChP P w) := by
  have H := hide h
  have OK := hide ok
  obtain ⟨Dt, hown, hreads⟩ := h.held
  have HRD := hide hreads
  have c5 := h.blk.cell (i := 5) rfl
  obtain ⟨r, HR⟩ : ∃ r, Hid (w.heap.size = r) := ⟨_, hide rfl⟩
  obtain ⟨hb, HHB⟩ : ∃ hb, Hid (Z.hb = hb) := ⟨_, hide rfl⟩
  have HHR : Hid (hb < r) := hide (by rw [← HHB.out, ← HR.out]; exact h.held.lt)
  obtain ⟨C, HC⟩ : ∃ C, Hid (Maps.size Dt = C) := ⟨_, hide rfl⟩
  have HC5 : Hid (C < 100000) := hide (by rw [← HC.out, hreads.size]; have := ok.cnt; have := ok.frames; omega)
  clear h ok hreads
  rw [HHB.out] at hown c5
  go_enter Tryd.func32, Tryd.ntmps32
  go_wp2_with (at_range; refine wpList_range_own _ rfl _ 63 rfl 3 56 intK Tryd.underlying63 ptrR hb P.n Dt rfl hown ?_; intro w1 hrg1 hg1 hs1; have HRG1 := hide hrg1; have HX1 := hide (Ext.of_grown hg1); have HS1 := hide hs1; clear hrg1 hg1 hs1)
  go_frame
  rw [HR.out] at HRG1 HS1 ⊢
  clear c5 hown
  go_loopw [3] (fun v wr => ∃ (zs : List Nat) (left : Lit → Bool) (cnt : Nat), Hid (wr.ownsRow (r + 1) 3 1 v zs.length (iV zs)) ∧ Hid (wr.ranges Tryd.prog 3 ptrR hb r P.n Dt left cnt) ∧ Hid (Ext w wr) ∧ Hid (ChR P left cnt C zs)) (fun _ wr => wr.rangeLeft hb r)
  case atStart =>
    refine ⟨[], _, _, hide (World.ownsRow_nil _ _ _ _), HRG1, HX1, hide ⟨List.nodup_nil, fun i => ⟨fun h => absurd h List.not_mem_nil, fun ⟨⟨f, hf, _⟩, hl⟩ => ?_⟩, by rw [HC.out]; exact Nat.le_of_eq (Nat.zero_add _)⟩⟩
    have h1 := HRD.out.has i
    rw [hl] at h1
    have h2 : (heldM Z P i).isSome = true := by unfold heldM; rw [hf]; rfl
    rw [h2] at h1
    cases h1
  case round =>
    obtain ⟨zs, left, cnt, HO, HRG, HX, HI⟩ := hrel
    have HSZ : Hid (r + 1 ≤ wr.heap.size) := hide HRG.out.lt
    have HZL : Hid (zs.length < 1000000) := hide (by have := HI.out.cnt; have := HC5.out; omega)
    have KSO := hide (sort_any HO.out HZL.out)
    go_wp2_with (first
      | (at_next; refine wpList_next_map _ rfl (.tmp 10) rfl ptrR hb r P.n Dt (heldM Z P) P.n HRD.out (fun i => .pointer (some ⟨Z.fb i, 0, none⟩)) (ptr_val Z P) left cnt rfl HRG.out ?_ ?_)
      | go_in)
    · intro _ hl0
      have HL0 := hide hl0
      clear hl0
      go_wp2_with (go_at_call 50; (with_reducible refine KSO.out.mono ?_); rintro e w2 ⟨rfl, hg2, A, cc, zs', hv2, hpm, hir, hA⟩; have HG2 := hide hg2; have HV2 := hide hv2; have HPM := hide hpm; have HIR := hide hir; have HA2 := hide hA; clear hg2 hv2 hpm hir hA)
      go_ret
      have hlt : ∀ k, Value.ownBlock _ = some k → _ := HO.out.lt
      refine ⟨A, cc, zs', by rw [HV2.out]; rfl, ⟨HPM.out.nodup_iff.2 HI.out.nodup, fun i => ?_⟩, by rw [HPM.out.length_eq]; have := HI.out.cnt; have := HC.out; have := HRD.out.size; omega, ?_, HIR.out, fun a ha => ?_⟩
      · rw [HPM.out.mem_iff, HI.out.mem]
        exact ⟨fun h => h.1, fun h => ⟨h, HL0.out _⟩⟩
      · refine ⟨HG2.out.os.trans HX.out.os, HG2.out.tape.trans HX.out.tape, HG2.out.output.trans HX.out.output, Nat.le_trans HX.out.size HG2.out.size, fun k hk => (HG2.out.block k (Nat.lt_of_lt_of_le hk HX.out.size) fun e => ?_).trans (Below.block HX.out k hk)⟩
        have := (hlt k e.symm).1
        have := HR.out
        omega
      · have h1 := hlt _ (HA2.out a ha)
        have := HR.out
        exact ⟨by omega, Nat.lt_of_lt_of_le h1.2 HG2.out.size⟩
    · intro i w2 cnt2 hsm hi5 hlk hrg2 hlt hgr hsz hen
      obtain ⟨f, hf⟩ : ∃ f, P.H i = some f := by
        unfold heldM at hsm
        cases hq : P.H i with
        | none => rw [hq] at hsm; cases hsm
        | some f => exact ⟨f, rfl⟩
      have HX2 : Hid (Ext w w2) := hide (HX.out.grown hgr (Nat.le_of_eq HR.out))
      have HRG2 := hide hrg2
      have HLT := hide hlt
      have HLK := hide hlk
      have HSZ2 : Hid (r + 1 ≤ w2.heap.size) := hide hrg2.lt
      have HO2 : Hid (w2.ownsRow (r + 1) 3 1 _ zs.length (iV zs)) := hide (HO.out.kept hgr (by
        refine .inr fun e => ?_
        have h1 := (HO.out.lt _ e).1
        omega))
      have H2 := hide (H.out.ext_ HX2.out)
      have f5 := (OK.out.page i f hf).2.by_
      have HF := hide hf
      obtain ⟨-, -, g6, -⟩ := fr_get f5
      have k6 := (H2.out.fr i f hf).cell g6
      clear hsm hi5 hlk hrg2 hlt hgr hsz f5 g6 hf
      have HS : Hid (∀ kl, (left kl && !kl.sameKey (ik i)) = false ↔ left kl = false ∨ kl = ik i) := hide (fun kl => by
        cases hl : left kl with
        | false => simp
        | true =>
          simp only [Bool.true_and, Bool.not_eq_false']
          constructor
          · intro h; exact .inr (WideAt.sameKey_eq h)
          · intro h
            rcases h with h | h
            · cases h
            · subst h; exact sameKey_ik.2 rfl)
      have HNI : Hid (i ∉ zs) := hide (fun h => by
        have h1 := ((HI.out.mem i).1 h).2
        rw [HLK.out] at h1
        cases h1)
      obtain ⟨chv, HCH⟩ : ∃ chv, Hid (f.ch = chv) := ⟨_, hide rfl⟩
      rw [HCH.out] at k6
      cases chv with
      | true =>
        have KB := hide (build_int (i : Int))
        go_wp2_with (first
          | ((with_reducible show wpList _ _ _ (⟨some 22, _, _, _, _, _⟩ :: _) _ _); refine wpList_gives (gives_buildSlice rfl [(0, .int .i64 (i : Int))] rfl (KB.out _) ⟨rfl, rfl⟩) rfl ?_)
          | (at_builtin; refine wpList_pushI rfl (.tmp 20) (.tmp 22) rfl (r + 1) _ zs i rfl rfl HO2.out HSZ2.out HZL.out ?_; intro v3 w3 hown3 hgrow3; have HO3 := hide hown3; have HG3 := hide hgrow3; clear hown3 hgrow3))
        have hlt2 : ∀ k, Value.ownBlock _ = some k → _ := HO2.out.lt
        have hrg3 := HRG2.out.kept HG3.out (fun e => by have := (hlt2 _ e.symm).1; have := HHR.out; omega) (fun e => by have := (hlt2 _ e.symm).1; omega)
        refine ⟨⟨zs ++ [i], _, cnt2, HO3, hide hrg3, hide ?_, hide ⟨?_, fun j => ?_, ?_⟩⟩, ?_⟩
        · refine ⟨HG3.out.os.trans HX2.out.os, HG3.out.tape.trans HX2.out.tape, HG3.out.output.trans HX2.out.output, Nat.le_trans HX2.out.size HG3.out.size, fun k hk => (HG3.out.block k (Nat.lt_of_lt_of_le hk HX2.out.size) fun e => ?_).trans (Below.block HX2.out k hk)⟩
          have := (hlt2 k e.symm).1
          have := HR.out
          omega
        · rw [List.nodup_append]
          refine ⟨HI.out.nodup, by simp, fun a ha b hb => ?_⟩
          rw [List.mem_singleton.1 hb]
          exact fun e => HNI.out (e ▸ ha)
        · rw [List.mem_append, List.mem_singleton, HI.out.mem, HS.out]
          constructor
          · rintro (h | rfl)
            · exact ⟨h.1, .inl h.2⟩
            · exact ⟨⟨f, HF.out, HCH.out⟩, .inr rfl⟩
          · rintro ⟨h1, h2 | h2⟩
            · exact .inl ⟨h1, h2⟩
            · exact .inr (ik_inj h2)
        · rw [List.length_append]
          have := HI.out.cnt
          have := HLT.out
          show zs.length + 1 + cnt2 ≤ C
          omega
        · rw [hrg3.left_eq, HRG.out.left_eq]; exact HLT.out
      | false =>
        go_wp2
        refine ⟨⟨zs, _, cnt2, HO2, HRG2, HX2, hide ⟨HI.out.nodup, fun j => ?_, ?_⟩⟩, ?_⟩
        · rw [HI.out.mem, HS.out]
          constructor
          · rintro ⟨h1, h2⟩; exact ⟨h1, .inl h2⟩
          · rintro ⟨⟨g, hg, hc⟩, h2 | h2⟩
            · exact ⟨⟨g, hg, hc⟩, h2⟩
            · obtain rfl := ik_inj h2
              rw [HF.out] at hg
              injection hg with hg
              rw [← hg, HCH.out] at hc
              cases hc
        · have := HI.out.cnt
          have := HLT.out
          omega
        · rw [HRG2.out.left_eq, HRG.out.left_eq]; exact HLT.out
end
end Go.Proofs.YtklbaddoomlkeaaDoor
namespace Go.Proofs.YtklbaddoomlkeaaDoor
open Go.RowKit

/-- The pages are stored, one after another. -/
def stAll : List Nat → St → Int × St
  | [], S => (0, S)
  | i :: zs, S => match S.P.H i with
    | some f => if (storeR S i f).1 ≠ 0 then storeR S i f else stAll zs (storeR S i f).2
    | none => (0, S)
def noCh (zs : List Nat) (P : Pl) : Pl := { P with H := fun i => (P.H i).map fun f => if i ∈ zs then { f with ch := false } else f }
def pflR (zs : List Nat) (S : St) : Int × St :=
  if (stAll zs S).1 ≠ 0 then stAll zs S else
  if (settleP (stAll zs S).2.L (stAll zs S).2.P).m = 0 then (0, { (stAll zs S).2 with P := settleP (stAll zs S).2.L (stAll zs S).2.P }) else
  if sE (stAll zs S).2.D ≠ 0 then (sE (stAll zs S).2.D, { (stAll zs S).2 with D := sD (stAll zs S).2.D, P := settleP (stAll zs S).2.L (stAll zs S).2.P }) else
  (0, { (stAll zs S).2 with D := sD (stAll zs S).2.D, P := noCh zs { settleP (stAll zs S).2.L (stAll zs S).2.P with W := fun _ => none, m := 0 } })
theorem stAll_cons {S : St} {i : Nat} {zs : List Nat} {f : Fm} (hf : S.P.H i = some f) : stAll (i :: zs) S = if (storeR S i f).1 ≠ 0 then storeR S i f else stAll zs (storeR S i f).2 := by
  show (match S.P.H i with | some f => _ | none => _) = _
  rw [hf]
theorem noCh_nil (P : Pl) : noCh [] P = P := by
  unfold noCh
  have e : (fun i => (P.H i).map fun f => if i ∈ ([] : List Nat) then { f with ch := false } else f) = P.H := by
    funext i
    cases P.H i with
    | none => rfl
    | some f => simp
  rw [e]
theorem noCh_snoc (P : Pl) (zs : List Nat) (x : Nat) {f : Fm} (hf : (noCh zs P).H x = some f) : noCh (zs ++ [x]) P = { noCh zs P with H := upM (noCh zs P).H x (some { f with ch := false }) } := by
  have e : (noCh (zs ++ [x]) P).H = upM (noCh zs P).H x (some { f with ch := false }) := by
    funext i
    have hf : (P.H x).map (fun f => if x ∈ zs then { f with ch := false } else f) = some f := hf
    show (P.H i).map (fun f => if i ∈ zs ++ [x] then { f with ch := false } else f) = _
    by_cases e : i = x
    · subst e
      rw [upM_same]
      cases hH : P.H i with
      | none => rw [hH] at hf; cases hf
      | some g =>
        rw [hH] at hf
        have hf := Option.some.inj hf
        have h2 : f = if i ∈ zs then { g with ch := false } else g := hf.symm
        show some (if i ∈ zs ++ [i] then { g with ch := false } else g) = _
        rw [if_pos (by simp), h2]
        split <;> rfl
    · rw [upM_other _ _ e]
      show _ = (P.H i).map (fun f => if i ∈ zs then { f with ch := false } else f)
      simp [e]
  rw [← e]
  rfl
section
variable {w w' : World} {A : Option Addr} {zs : List Nat}
theorem IRow.keep (h : IRow w A zs) (hk : ∀ a, A = some a → w'.heap[a.block]? = w.heap[a.block]?) : IRow w' A zs := fun hn => by
  obtain ⟨g, rfl, hc⟩ := h hn
  exact ⟨g, rfl, fun j x hx => (World.cell?_of_block (a := ⟨g, j, none⟩) (hk ⟨g, 0, none⟩ rfl)).trans (hc j x hx)⟩
end
section
variable {w0 w : World} {Z : Pk} {D : Dk} {L : Lg} {P : Pl}
/-- A row that is new to the pool stays through its calls. -/
theorem IRow.stay {w w1 w2 : World} {Z Z1 : Pk} {P P1 : Pl} {A : Option Addr} {zs : List Nat} (h : IRow w1 A zs) (hf : Pfr Z1 P1 w1 w2) (hA : ∀ a, A = some a → a.block < w.heap.size ∧ ¬ Z.has P a.block) (hl : Z1.Later P1 Z P w) (hs : w.heap.size ≤ w1.heap.size) : IRow w2 A zs := h.keep fun a ha => hf.other a.block (by have := (hA a ha).1; omega) fun hh => by
  rcases hl.has _ hh with h1 | h1
  · exact (hA a ha).2 h1
  · have := (hA a ha).1; omega
/-- The state of the first loop. -/
structure FlR (S0 : St) (zs : List Nat) (k : Nat) (c : Nat) (S : St) : Prop where
  le : k ≤ zs.length
  all : stAll zs S0 = stAll (zs.drop k) S
  H : S.P.H = S0.P.H
  hd : S.L.hd = S0.L.hd
  fit : S.Fit (c + k * (S0.L.hd.cn + 3))
def FlP (w0 w : World) (Z : Pk) (S0 : St) (e : Ending) (w' : World) : Prop := ∃ zs, ChL S0.P zs ∧ zs.length ≤ S0.P.n ∧ PPost w0 w Z S0.P (.int .i64 (pflR zs S0).1) (pflR zs S0).2.D (pflR zs S0).2.L (pflR zs S0).2.P e w'
set_option maxRecDepth 20000 in
set_option maxHeartbeats 6400000 in
theorem pflush_any {c : Nat} (h : PlAt w0 w Z D L P) (ft : St.Fit ⟨D, L, P⟩ c) (hc : c + P.n * (L.hd.cn + 3) ≤ 300000) (hT : Tab w0) (hoff : D.off = false) : Calls Tryd.prog 15 #[.pointer (some ⟨Z.q, 0, none⟩)] w (FlP w0 w Z ⟨D, L, P⟩) := by
  have H := hide h
  have HT := hide hT
  have HC := hide hc
  have c0 := h.blk.cell (i := 0) rfl
  have KON : Hid (Calls Tryd.prog 31 #[.pointer (some ⟨Z.X.g, 0, none⟩)] w (Same w (.bool true))) := hide (by have k := on_any h.log.disk; rw [hoff] at k; exact k)
  have KCH := hide (changed_any h ft.pool)
  obtain ⟨S0, HS0⟩ : ∃ S0, Hid ((⟨D, L, P⟩ : St) = S0) := ⟨_, hide rfl⟩
  have FT : Hid (S0.Fit c) := hide (by rw [← HS0.out]; exact ft)
  have HPP : Hid (S0.P = P ∧ S0.L = L ∧ S0.D = D) := hide (by rw [← HS0.out]; exact ⟨rfl, rfl, rfl⟩)
  obtain ⟨g, HG⟩ : ∃ g, Hid (Z.X.g = g) := ⟨_, hide rfl⟩
  obtain ⟨q, HQ⟩ : ∃ q, Hid (Z.q = q) := ⟨_, hide rfl⟩
  rw [HG.out] at c0 KON
  rw [HQ.out] at c0 KCH
  rw [HS0.out]
  have HQ2 := hide (show Z.q = q from HQ.out)
  rw [HQ2.out]
  clear h ft hc hT hoff
  go_enter Tryd.func15, Tryd.ntmps15
  go_upto_region 7 with (first
    | (go_at_call 31; (with_reducible refine KON.out.mono ?_); rintro e wz ⟨rfl, hwz⟩; subst hwz)
    | (go_at_call 32; (with_reducible refine KCH.out.mono ?_); rintro e w2 ⟨A, cc, zs, rfl, hch, hzn, hx2, hir, hA⟩; have HCH := hide hch; have HZN := hide hzn; have HX2 := hide hx2; have HIR := hide hir; have HA := hide hA; clear hch hzn hx2 hir hA))
  have HAR : Hid (∀ a, A = some a → a.block < w2.heap.size ∧ ¬ Z.has P a.block) := hide (fun a ha => ⟨(HA.out a ha).2, fun hh => by have h1 := (HA.out a ha).1; have h2 := H.out.has_lt hh; omega⟩)
  have HP2 : Hid (PlAt w0 w2 Z S0.D S0.L S0.P) := hide (by rw [← HS0.out]; exact H.out.ext_ HX2.out)
  have HCB : Hid (c + zs.length * (S0.L.hd.cn + 3) ≤ 300000) := hide (by
    rw [HPP.out.2.1]
    have h1 := Nat.mul_le_mul_right (L.hd.cn + 3) HZN.out
    have h2 := HC.out
    omega)
  clear c0 KON KCH
  go_loopw [24] (fun x wr => ∃ (k : Nat) (S : St) (Z1 : Pk), x = .int .i64 (k : Int) ∧ Hid (PlAt w0 wr Z1 S.D S.L S.P) ∧ Hid (Pfr Z P w2 wr) ∧ Hid (Z1.Later P Z P w2) ∧ Hid (IRow wr A zs) ∧ Hid (FlR S0 zs k c S)) (fun x _ => zs.length - (intOf x).toNat)
  case atStart => exact ⟨0, S0, Z, rfl, HP2, hide Pfr.refl, hide (Pk.Later.refl _ _ _), HIR, hide ⟨Nat.zero_le _, by rw [List.drop_zero], rfl, rfl, by rw [Nat.zero_mul]; exact FT.out⟩⟩
  case round =>
    obtain ⟨k, S, Z1, rfl, HPK, HFK, HLK, HIK, HRK⟩ := hrel
    have HQ1 : Hid (Z1.q = q) := hide (HLK.out.q.trans HQ.out)
    by_cases hk : k < zs.length
    · have hki : (k : Int) < (zs.length : Int) := by omega
      have hzk : zs[k]? = some zs[k] := List.getElem?_eq_getElem hk
      obtain ⟨x, HXK⟩ : ∃ x, Hid (zs[k] = x) := ⟨_, hide rfl⟩
      rw [HXK.out] at hzk
      have HZK := hide hzk
      obtain ⟨gA, rfl, hcell⟩ := HIK.out (fun e => by rw [e] at hk; exact absurd hk (Nat.not_lt_zero _))
      have ck := hcell k x hzk
      obtain ⟨f, hf⟩ : ∃ f, S.P.H x = some f := by
        obtain ⟨f, hf, -⟩ := (HCH.out.mem x).1 (List.mem_of_getElem? hzk)
        exact ⟨f, by rw [HRK.out.H, HPP.out.1]; exact hf⟩
      have HF := hide hf
      have hdrop : zs.drop k = x :: zs.drop (k + 1) := by rw [← HXK.out]; exact List.drop_eq_getElem_cons hk
      have HDR := hide hdrop
      have HKL := hide hk
      have HCK : Hid (c + k * (S0.L.hd.cn + 3) ≤ 300000) := hide (by
        have h1 := Nat.mul_le_mul_right (S0.L.hd.cn + 3) (Nat.le_of_lt hk)
        have h2 := HCB.out
        omega)
      have KST := hide (store_any HPK.out (by cases S; exact HRK.out.fit) (by have := HCK.out; omega) hf HT.out)
      rw [HQ1.out] at KST
      have hkb : k < 300001 := by
        have h1 : zs.length * 1 ≤ zs.length * (S0.L.hd.cn + 3) := Nat.mul_le_mul_left _ (by omega)
        have h2 := HCB.out
        omega
      have hkw : IntKind.i64.wrap ((k : Int) + 1) = ((k + 1 : Nat) : Int) := by rw [IntKind.wrap_i64]; omega
      obtain ⟨r1, HR1⟩ : ∃ r1, Hid ((storeR S x f).1 = r1) := ⟨_, hide rfl⟩
      obtain ⟨S1, HS1⟩ : ∃ S1, Hid ((storeR S x f).2 = S1) := ⟨_, hide rfl⟩
      have KS2 : Hid (Calls Tryd.prog 33 #[.pointer (some ⟨q, 0, none⟩), .int .i64 (x : Int)] wr (StPost w0 wr Z1 S.P (r1, S1))) := hide (by
        have k1 := KST.out
        rw [show storeR (⟨S.D, S.L, S.P⟩ : St) x f = (r1, S1) from Prod.ext HR1.out HS1.out] at k1
        exact k1)
      obtain ⟨k1, HK1⟩ : ∃ k1, Hid (k + 1 = k1) := ⟨_, hide rfl⟩
      rw [HK1.out] at hkw
      clear KST hzk hcell hf hdrop HXK hk hkb
      by_cases hr1 : r1 = 0
      · subst hr1
        go_wp2_with (go_at_call 33; (with_reducible refine KS2.out.mono ?_); rintro e w3 ⟨Z3, rfl, hp3, hf3, hl3, hb3⟩; have HP3 := hide hp3; have HF3 := hide hf3; have HL3 := hide hl3; clear hp3 hf3 hl3 hb3)
        have hz := storeR_P S x f
        rw [HS1.out] at hz
        have hZP : Z1.Later S.P Z P w2 := HLK.out.fewer fun j g hj => ⟨g, by rw [← HPP.out.1, ← HRK.out.H]; exact hj⟩
        refine ⟨⟨k1, S1, Z3, rfl, HP3, hide ?_, hide ?_, hide (HIK.out.stay HF3.out (fun a ha => HAR.out a ha) hZP HFK.out.size), hide ⟨?_, ?_, ?_, ?_, ?_⟩⟩, ?_⟩
        · exact HFK.out.trans HF3.out hZP
        · exact (hZP.trans HL3.out HFK.out.size).fewer fun j g hj => ⟨g, by rw [HRK.out.H, HPP.out.1]; exact hj⟩
        · have := HKL.out; have := HK1.out; omega
        · rw [HRK.out.all, HDR.out, stAll_cons HF.out, HR1.out, if_neg (by decide), HS1.out, HK1.out]
        · rw [hz.1]; exact HRK.out.H
        · rw [hz.2.2.2.2.2.2]; exact HRK.out.hd
        · have h1 := (storeR_fit HRK.out.fit (by have := HCK.out; omega) HF.out).1
          rw [HS1.out, HRK.out.hd] at h1
          refine h1.mono ?_
          rw [← HK1.out, Nat.add_mul]
          omega
        · show zs.length - ((k1 : Int)).toNat < zs.length - ((k : Int)).toNat
          have := HKL.out; have := HK1.out; omega
      · have hrr : (r1 != 0) = true := by simpa using hr1
        have HRN := hide hr1
        clear hr1
        go_wp2_with (go_at_call 33; (with_reducible refine KS2.out.mono ?_); rintro e w3 ⟨Z3, rfl, hp3, hf3, hl3, hb3⟩; have HP3 := hide hp3; have HF3 := hide hf3; have HL3 := hide hl3; clear hp3 hf3 hl3 hb3)
        go_ret
        have hz := storeR_P S x f
        rw [HS1.out] at hz
        have hZP : Z1.Later S.P Z P w2 := HLK.out.fewer fun j g hj => ⟨g, by rw [← HPP.out.1, ← HRK.out.H]; exact hj⟩
        have hall : stAll zs S0 = (r1, S1) := by
          rw [HRK.out.all, HDR.out, stAll_cons HF.out, HR1.out, if_pos HRN.out, ← HR1.out, ← HS1.out]
        have hres : pflR zs S0 = (r1, S1) := by unfold pflR; rw [hall, if_pos HRN.out]
        refine ⟨zs, by rw [HPP.out.1]; exact HCH.out, by rw [HPP.out.1]; exact HZN.out, ?_⟩
        rw [hres, HPP.out.1]
        have hpf := (Pfr.ext (Z := Z) (P := P) HX2.out).trans (HFK.out.trans HF3.out hZP) (Pk.Later.refl _ _ _)
        have hln := ((hZP.trans HL3.out HFK.out.size).fewer (P' := S1.P) fun j g hj => ⟨g, by rw [← hz.1]; exact hj⟩).up HX2.out.size
        exact ⟨Z3, rfl, HP3.out, hpf, hln⟩
    · obtain rfl : k = zs.length := by have := HRK.out.le; omega
      have hki : ¬ (zs.length : Int) < (zs.length : Int) := by omega
      have KSE := hide (psettle_any HPK.out)
      rw [HQ1.out] at KSE
      clear hk
      go_upto_region 14 with (go_at_call 34; (with_reducible refine KSE.out.mono ?_); rintro e w3 ⟨rfl, hp3, hf3⟩; have HP3 := hide hp3; have HF3 := hide hf3; clear hp3 hf3)
      have hall : stAll zs S0 = (0, S) := by rw [HRK.out.all, List.drop_length]; rfl
      obtain ⟨P4, HP4⟩ : ∃ P4, Hid (settleP S.L S.P = P4) := ⟨_, hide rfl⟩
      rw [HP4.out] at HP3
      have HPH : Hid (P4.H = P.H) := hide (by rw [← HP4.out, (settleP_is S.L S.P).1, HRK.out.H, HPP.out.1])
      have HRES : Hid (pflR zs S0 = if P4.m = 0 then (0, { S with P := P4 }) else if sE S.D ≠ 0 then (sE S.D, { S with D := sD S.D, P := P4 }) else (0, { S with D := sD S.D, P := noCh zs { P4 with W := fun _ => none, m := 0 } })) := hide (by unfold pflR; rw [hall, if_neg (fun hh => hh rfl), HP4.out])
      have HZ4 : Hid (Z1.Later P4 Z P w2) := hide (HLK.out.fewer fun j g hj => ⟨g, by rw [← HPH.out]; exact hj⟩)
      have HF4 : Hid (Pfr Z P w2 w3) := hide (HFK.out.trans HF3.out (HLK.out.fewer fun j g hj => ⟨g, by rw [← HPP.out.1, ← HRK.out.H]; exact hj⟩))
      have HPN : Hid (ChL S0.P zs ∧ zs.length ≤ S0.P.n) := hide (by rw [HPP.out.1]; exact ⟨HCH.out, HZN.out⟩)
      have HIR3 : Hid (IRow w3 A zs) := hide (HIR.out.keep fun a ha => HF4.out.other a.block (HAR.out a ha).1 (HAR.out a ha).2)
      have k6 := HP3.out.blk.cell (i := 6) rfl
      have k0 := HP3.out.blk.cell (i := 0) rfl
      rw [HQ1.out] at k6 k0
      obtain ⟨g1, HG1⟩ : ∃ g1, Hid (Z1.X.g = g1) := ⟨_, hide rfl⟩
      obtain ⟨ob, HOB⟩ : ∃ ob, Hid (Z1.ob = ob) := ⟨_, hide rfl⟩
      rw [HG1.out] at k0
      obtain ⟨m, HM⟩ : ∃ m, Hid (P4.m = m) := ⟨_, hide rfl⟩
      have hlen : ∀ k, (Builtin.len_ #[64] 3 #[.map (some ob)]).run Tryd.prog (w3.drewN k) = .ok (.int .i64 (m : Int)) (w3.drewN k) := fun k => by
        have h1 := (HP3.out.ext_ ((Ext.refl _).drewN k)).way.len (t := 64) Tryd.underlying64 3
        rw [HM.out, HOB.out] at h1
        exact h1
      have hlen0 := hlen 0
      rw [show w3.drewN 0 = w3 from rfl] at hlen0
      rw [HOB.out] at k6
      rw [HM.out] at HRES
      clear hall hki KSE
      by_cases hm : m = 0
      · subst hm
        have HRES2 : Hid (pflR zs S0 = (0, { S with P := P4 })) := hide (by rw [HRES.out, if_pos rfl])
        go_wp2
        go_ret
        refine ⟨zs, HPN.out.1, HPN.out.2, ?_⟩
        rw [HRES2.out, HPP.out.1]
        exact PPost.pre HX2.out ⟨Z1, rfl, HP3.out, HF4.out, HZ4.out⟩
      · have hmi : ((m : Int) == 0) = false := by simp; omega
        have HB := hide HRK.out.fit.bd
        obtain ⟨e5, HE5⟩ : ∃ e5, Hid (sE S.D = e5) := ⟨_, hide rfl⟩
        obtain ⟨D5, HD5⟩ : ∃ D5, Hid (sD S.D = D5) := ⟨_, hide rfl⟩
        have KSY : Hid (∀ W, Ext w3 W → Calls Tryd.prog 35 #[.pointer (some ⟨g1, 0, none⟩)] W (LPost w0 W Z1.X (.int .i64 e5) D5 S.L)) := hide (fun W hW => by
          have k1 := gsync_any (HP3.out.ext_ hW).log HB.out
          rw [HG1.out, HE5.out, HD5.out] at k1
          exact k1)
        rw [HE5.out, HD5.out, if_neg hm] at HRES
        have HMN := hide hm
        clear hm
        by_cases he5 : e5 = 0
        · subst he5
          go_upto_region 19 with (go_at_call 35; (with_reducible refine (KSY.out _ (Ext.refl _)).mono ?_); rintro e w4 hp4; have HP4L := hide (HP3.out.of_logE hp4); obtain ⟨X4, rfl, -⟩ := hp4)
          obtain ⟨Z5, -, -, -, hpl5, hpf5, hpn5⟩ := HP4L.out
          have HP5 := hide hpl5
          have HF5 : Hid (Pfr Z P w2 w4) := hide (HF4.out.trans hpf5 HZ4.out)
          have HZ5 : Hid (Z5.Later P4 Z P w2) := hide (HZ4.out.trans hpn5 HF4.out.size)
          have HQ5 : Hid (Z5.q = q) := hide (HZ5.out.q.trans HQ.out)
          obtain ⟨w5, hrun, hmm, ht⟩ := hpl5.way.clear (t := 64) (e := 33) Tryd.underlying64 0
          obtain ⟨P5, HP5E⟩ : ∃ P5, Hid (({ P4 with W := fun _ => none, m := 0 } : Pl) = P5) := ⟨_, hide rfl⟩
          have HP6 : Hid (PlAt w0 w5 Z5 D5 S.L P5) := hide (by rw [← HP5E.out]; exact hpl5.wayIs (fun _ => none) 0 ht (by unfold wayM; exact hmm))
          have HPH5 : Hid (P5.H = P.H) := hide (by rw [← HP5E.out]; exact HPH.out)
          have HF6 : Hid (Pfr Z P w2 w5) := hide (HF5.out.trans (Pfr.onMap ht (.inr (.inr (.inr (.inl rfl))))) HZ5.out)
          have HZ6 : Hid (Z5.Later P5 Z P w2) := hide (HZ5.out.fewer fun j g hj => ⟨g, by rw [HPH.out, ← HPH5.out]; exact hj⟩)
          have HIR6 : Hid (IRow w5 A zs) := hide (HIR.out.keep fun a ha => HF6.out.other a.block (HAR.out a ha).1 (HAR.out a ha).2)
          have HOB5 : Hid (Z5.ob = ob) := hide (by rw [← HOB.out]; exact hpn5.ob)
          rw [HOB5.out] at hrun
          have HRUN := hide hrun
          have k6b := hpl5.blk.cell (i := 6) rfl
          rw [HQ5.out, HOB5.out] at k6b
          rw [HP5E.out, if_neg (fun hh => hh rfl)] at HRES
          clear k0 k6 hlen hlen0 hpl5 hpf5 hpn5 hrun hmm ht KSY
          go_upto_region 21 with ((with_reducible show wpList _ _ _ (⟨none, .call _, _, _, _, _⟩ :: _) _ _); refine wpList_gives (gives_bi1 (x := .tmp 54) rfl rfl HRUN.out ⟨rfl, rfl⟩) rfl ?_)
          clear k6b
          go_loopw [57] (fun x wr => ∃ (k : Nat), x = .int .i64 (k : Int) ∧ Hid (k ≤ zs.length) ∧ Hid (PlAt w0 wr Z5 D5 S.L (noCh (zs.take k) P5)) ∧ Hid (Pfr Z P w2 wr) ∧ Hid (IRow wr A zs)) (fun x _ => zs.length - (intOf x).toNat)
          case atStart => exact ⟨0, rfl, hide (Nat.zero_le _), hide (by rw [List.take_zero, noCh_nil]; exact HP6.out), HF6, HIR6⟩
          case round =>
            obtain ⟨k, rfl, HKL, HPK5, HFK5, HIK5⟩ := hrel
            by_cases hk : k < zs.length
            · have hki : (k : Int) < (zs.length : Int) := by omega
              have hzk : zs[k]? = some zs[k] := List.getElem?_eq_getElem hk
              obtain ⟨x, HXK⟩ : ∃ x, Hid (zs[k] = x) := ⟨_, hide rfl⟩
              rw [HXK.out] at hzk
              have HTK : Hid (zs.take (k + 1) = zs.take k ++ [x]) := hide (by rw [List.take_add_one, hzk]; rfl)
              obtain ⟨gA, rfl, hcell⟩ := HIK5.out (fun e => by rw [e] at hk; exact absurd hk (Nat.not_lt_zero _))
              have ck := hcell k x hzk
              obtain ⟨f0, hf0⟩ : ∃ f, P5.H x = some f := by
                obtain ⟨f, hf, -⟩ := (HCH.out.mem x).1 (List.mem_of_getElem? hzk)
                exact ⟨f, by rw [HPH5.out]; exact hf⟩
              have hb0 : f0.by_.length = 504 := (HRK.out.fit.pool.page x f0 (by rw [HRK.out.H, HPP.out.1, ← HPH5.out]; exact hf0)).2.by_
              have hx5 : x < 100000 := by
                have h1 := (HRK.out.fit.pool.page x f0 (by rw [HRK.out.H, HPP.out.1, ← HPH5.out]; exact hf0)).1
                have h2 := HRK.out.fit.pool.at_
                have h3 := HRK.out.fit.pool.max
                omega
              obtain ⟨f, hf, hfb⟩ : ∃ f, (noCh (zs.take k) P5).H x = some f ∧ f.by_.length = 504 := by
                refine ⟨if x ∈ zs.take k then { f0 with ch := false } else f0, ?_, ?_⟩
                · show (P5.H x).map _ = _
                  rw [hf0]; rfl
                · split
                  · exact hb0
                  · exact hb0
              have HF := hide hf
              have HFB := hide hfb
              have hlk := held_look HPK5.out hx5
              rw [hf] at hlk
              have hlk0 := hlk 0
              rw [show wr.drewN 0 = wr from rfl] at hlk0
              have hrf := HPK5.out.fr x f hf
              have z506 := hrf.frozen 506
              have k506 := hrf.cell (fr_get hfb).2.2.1
              have c5 := HPK5.out.blk.cell (i := 5) rfl
              rw [HQ5.out] at c5
              have c5 : wr.cell? ⟨q, 5, none⟩ = some (.map (some Z5.hb)) := c5
              obtain ⟨b, HBE⟩ : ∃ b, Hid (Z5.fb x = b) := ⟨_, hide rfl⟩
              rw [HBE.out] at hlk0 z506 k506
              have hlk0 : (Instr.lookup 63 (.map (some Z5.hb)) (.int .i64 (x : Int)) false).run Tryd.prog wr = .ok (.pointer (some ⟨b, 0, none⟩)) wr := hlk0
              have hkw : IntKind.i64.wrap ((k : Int) + 1) = ((k + 1 : Nat) : Int) := by
                have h1 : zs.length * 1 ≤ zs.length * (S0.L.hd.cn + 3) := Nat.mul_le_mul_left _ (by omega)
                have h2 := HCB.out
                rw [IntKind.wrap_i64]; omega
              have HKK := hide hk
              obtain ⟨k1, HK1⟩ : ∃ k1, Hid (k + 1 = k1) := ⟨_, hide rfl⟩
              rw [HK1.out] at hkw HTK
              clear hzk hcell hf0 hb0 hx5 hf hfb hlk hrf HXK hk
              go_wp2
              have hr := (HPK5.out.fr x f HF.out).set 506 (.bool false)
              rw [show (frC f).set 506 (.bool false) = frC { f with ch := false } from fr_set HFB.out 2 _, HBE.out] at hr
              have hP := HPK5.out.frame x (f := f) (f' := { f with ch := false }) HF.out (cell_rest wr ⟨b, 506, none⟩ (.bool false)) (fun j hj => Below.heap_setCell wr ⟨b, 506, none⟩ _ j (by rw [← HBE.out]; exact hj)) (by rw [HBE.out]; exact hr) _ (noCh_snoc P5 (zs.take k) x HF.out)
              have hfr : Pfr Z5 (noCh (zs.take k) P5) wr (wr.setCell ⟨b, 506, none⟩ (.bool false)) := Pfr.onCell (.inr (.inr (.inr (.inr ⟨x, f, HF.out, HBE.out.symm⟩))))
              have hff := HFK5.out.trans hfr (HZ6.out.fewer fun j g hj => by
                have hj : (P5.H j).map _ = some g := hj
                cases hq : P5.H j with
                | none => rw [hq] at hj; cases hj
                | some g' => exact ⟨g', rfl⟩)
              refine ⟨⟨k1, rfl, hide (by have := HKK.out; have := HK1.out; omega), hide (by rw [HTK.out]; exact hP), hide hff, hide (HIR.out.keep fun a ha => hff.other a.block (HAR.out a ha).1 (HAR.out a ha).2)⟩, ?_⟩
              show zs.length - ((k1 : Int)).toNat < zs.length - ((k : Int)).toNat
              have := HKK.out
              have := HK1.out
              omega
            · obtain rfl : k = zs.length := by have := HKL.out; omega
              have hki : ¬ (zs.length : Int) < (zs.length : Int) := by omega
              clear hk
              go_wp2
              go_ret
              have hP := HPK5.out
              rw [List.take_length] at hP
              refine ⟨zs, HPN.out.1, HPN.out.2, ?_⟩
              rw [HRES.out, HPP.out.1]
              exact PPost.pre HX2.out ⟨Z5, rfl, hP, HFK5.out, HZ6.out.fewer fun j g hj => by
                have hj : (P5.H j).map _ = some g := hj
                cases hq : P5.H j with
                | none => rw [hq] at hj; cases hj
                | some g' => exact ⟨g', rfl⟩⟩
        · have he5b : (e5 != 0) = true := by simpa using he5
          have HRES2 : Hid (pflR zs S0 = (e5, { S with D := D5, P := P4 })) := hide (by rw [HRES.out, if_pos he5])
          clear he5 hlen
          go_wp2_with (go_at_call 35; (with_reducible refine (KSY.out _ (Ext.refl _)).mono ?_); rintro e w4 hp4; have HP4L := hide (HP3.out.of_logE hp4); obtain ⟨X4, rfl, -⟩ := hp4)
          go_ret
          obtain ⟨Z5, -, -, -, hpl5, hpf5, hpn5⟩ := HP4L.out
          refine ⟨zs, HPN.out.1, HPN.out.2, ?_⟩
          rw [HRES2.out, HPP.out.1]
          exact PPost.pre HX2.out ⟨Z5, rfl, hpl5, HF4.out.trans hpf5 HZ4.out, HZ4.out.trans hpn5 HF4.out.size⟩
end
end Go.Proofs.YtklbaddoomlkeaaDoor
namespace Go.Proofs.YtklbaddoomlkeaaDoor
open Go.RowKit

/-- What is pending on the disk is told, since the log was durable last. -/
structure Way (S : St) : Prop where
  pen : S.D.pen = [] ∨ (S.P.m ≠ 0 ∧ ¬ S.P.sure < S.L.sure)
  cnt : ∀ i s, S.P.W i = some s → S.P.m ≠ 0
section
variable {S : St} {c i : Nat} {f : Fm}
theorem settleP_cnt {L : Lg} {P : Pl} (h : ∀ i s, P.W i = some s → P.m ≠ 0) : (∀ i s, (settleP L P).W i = some s → (settleP L P).m ≠ 0) ∧ ¬ (settleP L P).sure < L.sure := by
  unfold settleP
  split
  · exact ⟨fun i s hi => (by cases hi), Nat.lt_irrefl _⟩
  · rename_i hn
    exact ⟨h, hn⟩
theorem wayP_m {P : Pl} (h : ∀ i s, P.W i = some s → P.m ≠ 0) (i s : Nat) : (wayP P i s).m ≠ 0 := by
  unfold wayP
  split
  · rename_i hs
    obtain ⟨x, hx⟩ := Option.isSome_iff_exists.1 hs
    exact h i x hx
  · exact Nat.succ_ne_zero _
theorem storeR_way (g : Good S) (wy : Way S) (ft : S.Fit c) (hc : c ≤ 400000) (hf : S.P.H i = some f) (hch : f.ch = true) : Way (storeR S i f).2 := by
  obtain ⟨a1, -⟩ := aheadR_good g ft hf hch
  have h0 := (storeR_good g ft hc hf hch).1
  have hp : (storeR S i f).2.P = wayP (settleP (storeR S i f).2.L S.P) i f.since := by
    unfold storeR at h0 ⊢
    rw [a1, if_neg (fun h => h rfl)] at h0 ⊢
    by_cases h2 : (putR (aheadR S f).2 i f).1 ≠ 0
    · rw [if_pos h2] at h0; exact absurd h0 h2
    · rw [if_neg h2]; rfl
  have hs := settleP_cnt (L := (storeR S i f).2.L) wy.cnt
  refine ⟨.inr ⟨by rw [hp]; exact wayP_m hs.1 _ _, by rw [hp, (wayP_is _ _ _).2.2.2.2.2.2.2.2]; exact hs.2⟩, fun j s hj => by rw [hp]; exact wayP_m hs.1 _ _⟩
theorem storeR_Good (g : Good S) (ft : S.Fit c) (hc : c ≤ 400000) (hf : S.P.H i = some f) (hch : f.ch = true) : Good (storeR S i f).2 := by
  obtain ⟨s1, s2, s3, s4, s5, s6, s7, s8⟩ := storeR_good g ft hc hf hch
  obtain ⟨e1, e2, e3, e4, e5, e6, e7⟩ := storeR_P S i f
  have hfo := (ft.pool.page i f hf).2
  obtain ⟨fb1, fb2⟩ := frameB_sec hfo.by_ hfo.last
  refine ⟨s2, by rw [s7, e7, e3]; exact g.apart, fun j g' hj hc' => ?_, fun j g' hj => ?_, fun j hj => ?_, by rw [s3]; exact s5, Nat.lt_of_lt_of_le g.pos s4⟩
  · rw [e1] at hj
    have e : j ≠ i := fun e => by
      subst e
      rw [hf] at hj
      injection hj with hj
      rw [← hj, hch] at hc'
      cases hc'
    rw [e3, s8 j (ft.pool.page j g' hj).1, if_neg e]
    exact g.same j g' hj hc'
  · rw [e1] at hj
    rw [s3]; exact g.ahead j g' hj
  · have hj' : j < S.P.pages := by rw [← e4]; exact hj
    rw [e3, s8 j hj']
    by_cases e : j = i
    · rw [if_pos e, fb2]
      have := (g.ahead i f hf).2 hch
      exact .inl (by omega)
    · rw [if_neg e]
      rcases g.wal j hj' with h | h
      · exact .inl (by omega)
      · exact .inr h
theorem storeR_held (S : St) (i : Nat) (f : Fm) : (storeR S i f).2.L.held = S.L.held := by
  have ha : (aheadR S f).2.L.held = S.L.held := by
    unfold aheadR
    split
    · exact (flL_hd _ _).2.2.1
    · rfl
  unfold storeR
  split
  · exact ha
  · split
    · exact ha
    · exact ha
theorem roomR_way (g : Good S) (wy : Way S) (ft : S.Fit c) (hc : c ≤ 400000) : Way (roomR S).2 ∧ (roomR S).2.L.held = S.L.held := by
  unfold roomR
  split
  · exact ⟨wy, rfl⟩
  · split
    · exact ⟨wy, rfl⟩
    · rename_i i _
      split
      · exact ⟨wy, rfl⟩
      · rename_i f hf
        split
        · rename_i hch
          have h1 := storeR_way g wy ft hc hf hch
          have h2 := storeR_held S i f
          split
          · exact ⟨h1, h2⟩
          · exact ⟨⟨h1.pen, h1.cnt⟩, h2⟩
        · exact ⟨⟨wy.pen, wy.cnt⟩, rfl⟩
theorem pageR_way (g : Good S) (wy : Way S) (ft : S.Fit c) (hc : c ≤ 400000) (x : Int) : Way (pageR S x).2 ∧ (pageR S x).2.L.held = S.L.held := by
  obtain ⟨h1, h2⟩ := roomR_way g wy ft hc
  unfold pageR
  split
  · exact ⟨wy, rfl⟩
  · split
    · exact ⟨⟨wy.pen, wy.cnt⟩, rfl⟩
    · split
      · exact ⟨wy, rfl⟩
      · split
        · exact ⟨h1, h2⟩
        · exact ⟨⟨h1.pen, h1.cnt⟩, h2⟩
theorem pageR_sub (ft : S.Fit c) (hc : c ≤ 400000) {j : Nat} {f : Fm} (hj : j ≠ i) (h : (pageR S (i : Int)).2.P.H j = some f) : S.P.H j = some f := by
  have hr := (roomR_fit ft hc).2.2.2.2.1
  unfold pageR at h
  split at h
  · exact h
  · rw [Int.toNat_natCast] at h
    split at h
    · exact (upM_other _ _ hj).symm.trans h
    · split at h
      · exact h
      · split at h
        · exact hr j f h
        · exact hr j f ((upM_other _ _ hj).symm.trans ((upM_other _ _ hj).symm.trans h))
/-- The pages stored, one after another. -/
theorem stAll_good : ∀ (zs : List Nat) (S : St) (c : Nat), Good S → Way S → S.Fit c → c + zs.length * (S.L.hd.cn + 3) ≤ 400000 → zs.Nodup → (∀ i, i ∈ zs → ∃ f, S.P.H i = some f ∧ f.ch = true) →
    (stAll zs S).1 = 0 ∧ Good (stAll zs S).2 ∧ Way (stAll zs S).2 ∧ (stAll zs S).2.P.H = S.P.H ∧ (stAll zs S).2.P.at_ = S.P.at_ ∧ (stAll zs S).2.P.pages = S.P.pages ∧ (stAll zs S).2.Fit (c + zs.length * (S.L.hd.cn + 3)) ∧ (stAll zs S).2.D.dur.length = S.D.dur.length ∧
    (∀ j f, j ∈ zs → S.P.H j = some f → (stAll zs S).2.D.at (S.P.at_ + j) = secB f) ∧ ∀ j, j < S.P.pages → j ∉ zs → (stAll zs S).2.D.at (S.P.at_ + j) = S.D.at (S.P.at_ + j)
  | [], S, c, g, wy, ft, _, _, _ => ⟨rfl, g, wy, rfl, rfl, rfl, by rw [List.length_nil, Nat.zero_mul]; exact ft, rfl, fun j f h => absurd h List.not_mem_nil, fun j _ _ => rfl⟩
  | i :: zs, S, c, g, wy, ft, hc, hn, hz => by
    obtain ⟨f, hf, hch⟩ := hz i List.mem_cons_self
    rw [List.length_cons, Nat.succ_mul] at hc
    have hc1 : c ≤ 400000 := by omega
    obtain ⟨s1, s2, s3, s4, s5, s6, s7, s8⟩ := storeR_good g ft hc1 hf hch
    obtain ⟨e1, e2, e3, e4, e5, e6, e7⟩ := storeR_P S i f
    obtain ⟨f1, f2⟩ := storeR_fit ft hc1 hf
    rw [List.nodup_cons] at hn
    have ih := stAll_good zs (storeR S i f).2 (c + S.L.hd.cn + 3) (storeR_Good g ft hc1 hf hch) (storeR_way g wy ft hc1 hf hch) f1 (by rw [e7]; omega) hn.2 (fun j hj => by rw [e1]; exact hz j (List.mem_cons_of_mem _ hj))
    rw [e1, e3, e4, e7, f2] at ih
    obtain ⟨i1, i2, i3, i4, i5, i6, i7, i8, i9, i10⟩ := ih
    rw [stAll_cons hf, s1, if_neg (fun h => h rfl)]
    refine ⟨i1, i2, i3, i4, i5, i6, i7.mono (by rw [List.length_cons, Nat.succ_mul]; omega), i8, fun j f' hj hf' => ?_, fun j hj hjz => ?_⟩
    · by_cases e : j = i
      · subst e
        rw [hf] at hf'
        injection hf' with hf'
        subst hf'
        rw [i10 j (ft.pool.page j f hf).1 hn.1, s8 j (ft.pool.page j f hf).1, if_pos rfl]
      · rcases List.mem_cons.1 hj with h | h
        · exact absurd h e
        · exact i9 j f' h hf'
    · rw [List.mem_cons, not_or] at hjz
      rw [i10 j hj hjz.2, s8 j hj, if_neg hjz.1]
theorem sD_pen {D : Dk} (h : Awk D) : (sD D).pen = [] := by
  unfold sD
  rw [if_neg (by rw [h.1]; decide), if_neg (by rw [h.2]; decide)]
  rfl
/-- Flush leaves all durable. -/
theorem pflR_good {zs : List Nat} (g : Good S) (wy : Way S) (ft : S.Fit c) (hc : c + zs.length * (S.L.hd.cn + 3) ≤ 400000) (hz : ChL S.P zs) : (pflR zs S).1 = 0 ∧ (pflR zs S).2.D.pen = [] ∧ Awk (pflR zs S).2.D ∧ Bd (pflR zs S).2.D ∧ (pflR zs S).2.D.dur.length = S.D.dur.length ∧
    ∀ j, j < S.P.pages → ((frameB ((pflR zs S).2.D.at (S.P.at_ + j))).by_, (frameB ((pflR zs S).2.D.at (S.P.at_ + j))).last) = cont S j := by
  obtain ⟨i1, i2, i3, i4, i5, i6, i7, i8, i9, i10⟩ := stAll_good zs S c g wy ft hc hz.nodup (fun i hi => (hz.mem i).1 hi)
  have hcont : ∀ j, j < S.P.pages → ((frameB ((stAll zs S).2.D.at (S.P.at_ + j))).by_, (frameB ((stAll zs S).2.D.at (S.P.at_ + j))).last) = cont S j := fun j hj => by
    unfold cont
    cases hH : S.P.H j with
    | none =>
      have hn : j ∉ zs := fun h => by
        obtain ⟨f, hf, -⟩ := (hz.mem j).1 h
        rw [hH] at hf; cases hf
      rw [i10 j hj hn]
    | some f =>
      have hfo := (ft.pool.page j f hH).2
      obtain ⟨fb1, fb2⟩ := frameB_sec hfo.by_ hfo.last
      by_cases hch : f.ch = true
      · rw [i9 j f ((hz.mem j).2 ⟨f, hH, hch⟩) hH, fb1, fb2]
      · have hn : j ∉ zs := fun h => by
          obtain ⟨f', hf, hc'⟩ := (hz.mem j).1 h
          rw [hH] at hf
          injection hf with hf
          rw [← hf] at hc'
          exact hch hc'
        rw [i10 j hj hn]
        exact (g.same j f hH (by simpa using hch)).symm
  have hlt : ∀ j, j < S.P.pages → S.P.at_ + j < (stAll zs S).2.D.dur.length := fun j hj => by
    have h1 : S.P.at_ + S.P.pages ≤ S.D.dur.length := ft.pool.at_
    omega
  unfold pflR
  rw [i1, if_neg (fun h => h rfl)]
  generalize stAll zs S = R at *
  obtain ⟨r, S1⟩ := R
  simp only at i1 i2 i3 i4 i5 i6 i7 i8 i9 i10 hcont hlt ⊢
  by_cases hm : (settleP S1.L S1.P).m = 0
  · rw [if_pos hm]
    refine ⟨rfl, ?_, i2.awk, i7.bd, i8, hcont⟩
    rcases i3.pen with h | ⟨h1, h2⟩
    · exact h
    · refine absurd hm ?_
      unfold settleP
      rw [if_neg h2]; exact h1
  · have hE : sE S1.D = 0 := awk_sync i2.awk
    rw [if_neg hm, hE, if_neg (fun h => h rfl)]
    have hb := sD_bd i7.bd (by have := i7.ops; omega)
    exact ⟨rfl, sD_pen i2.awk, awk_sD i2.awk, hb.1, hb.2.2.2.trans i8, fun j hj => by
      show ((frameB ((sD S1.D).at (S.P.at_ + j))).by_, (frameB ((sD S1.D).at (S.P.at_ + j))).last) = _
      rw [at_sD i2.awk _ (hlt j hj)]
      exact hcont j hj⟩
/-- A restart that keeps nothing of what is pending, where nothing is. -/
theorem fallen_at {D : Dk} (h : D.pen = []) (j : Nat) : (D.fallen []).at j = D.at j := by
  unfold Dk.fallen Dk.at
  rw [h]
  rfl
end
end Go.Proofs.YtklbaddoomlkeaaDoor
namespace Go.Proofs.YtklbaddoomlkeaaDoor
open Go.RowKit

structure Sl (S : St) (F pq c e : Nat) (la : Nat → UInt8) : Prop where
  ft : S.Fit c
  good : Good S
  way : Way S
  cn : S.L.hd.cn = 40
  st : S.L.hd.st = 480
  held : S.L.held = 0
  at_ : S.P.at_ = 41
  pages : S.P.pages = 9
  frames : S.P.frames = F
  pin : ∃ f, S.P.H pq = some f ∧ f.pins = 1
  oth : ∀ j f, S.P.H j = some f → j ≠ pq → f.pins = 0
  room : S.P.n < F ∨ ∃ j f, j ≠ pq ∧ S.P.H j = some f
  con : ∀ j, j < 9 → (cont S j).1[3]? = some (la j)
  end_ : endOf S.L ≤ e
section
variable {S : St} {F pq c e k : Nat} {la : Nat → UInt8} {f : Fm}
theorem tail_end (L : Lg) : L.tail.length ≤ endOf L := by unfold endOf; omega
theorem sl_append (h : Sl S F pq c e la) (x : UInt8) (he : e ≤ 10000) : Sl (apS S [x]) F pq c (e + 3) la := by
  obtain ⟨e1, e2, e3, e4, e5, e6⟩ := apS_end S [x]
  obtain ⟨g1, g2⟩ := apS_good h.good [x]
  have ht := tail_end S.L
  have h1 := h.end_
  refine ⟨apS_fit h.ft [x] (by rw [h.cn]; show S.L.tail.length + 3 ≤ _; omega), g1, ⟨?_, h.way.cnt⟩, by rw [e3]; exact h.cn, by rw [e3]; exact h.st, by rw [e6]; exact h.held, h.at_, h.pages, h.frames, h.pin, h.oth, h.room, fun j hj => by rw [g2 j]; exact h.con j hj, by rw [e1]; show endOf S.L + 3 ≤ e + 3; omega⟩
  rw [e2]; exact h.way.pen
theorem sl_room (h : Sl S F pq c e la) (he : e ≤ 10000) : (0 : Int) ≤ roomOf S.L - 2 - ((1 : Nat) : Int) := by
  have h1 := h.end_
  unfold roomOf
  rw [h.st, h.cn, h.held]
  show (0 : Int) ≤ (((480 / 480 + 40) * 480 : Nat) : Int) - (endOf S.L : Int) - ((0 : Nat) : Int) - 2 - ((1 : Nat) : Int)
  omega
theorem sl_had (h : Sl S F pq c e la) : S.P.H k ≠ none ∨ S.P.n < S.P.frames ∨ idle S.P.H S.P.pages ≠ none := by
  rcases h.room with h1 | ⟨j, f, h1, h2⟩
  · exact .inr (.inl (by rw [h.frames]; exact h1))
  · exact .inr (.inr (idle_ne h.ft.pool f.used j f h2 (h.oth j f h2 h1) (Nat.le_refl _)))
theorem sl_page (h : Sl S F pq c e la) (hc : c ≤ 300000) (hk : k < 9) : ∃ S1, pageR S (k : Int) = (0, S1) ∧ Sl S1 F pq (c + 44) e la ∧ (∃ f, S1.P.H k = some f ∧ (f.by_, f.last) = cont S1 k) ∧ endOf S1.L = endOf S.L := by
  have hk9 : k < S.P.pages := by rw [h.pages]; exact hk
  obtain ⟨p1, p2, p3, p4, ⟨f, p5, p6, p7, p8⟩, p9, p10⟩ := pageR_good h.good h.ft (by omega) hk9 (sl_had h)
  obtain ⟨q1, q2⟩ := pageR_way h.good h.way h.ft (by omega) (k : Int)
  obtain ⟨r1, r2, r3, r4, r5, r6⟩ := pageR_fit h.ft (by omega) (k : Int)
  have hsub := fun j f (hj : j ≠ k) => pageR_sub (f := f) h.ft (by omega) hj
  have hheld : k = pq → (pageR S (k : Int)).2.P.n = S.P.n ∧ ∀ j, j ≠ k → (pageR S (k : Int)).2.P.H j = S.P.H j := fun e => by
    obtain ⟨f0, h0, -⟩ := h.pin
    rw [← e] at h0
    rw [page_held hk9 h0]
    exact ⟨rfl, fun j hj => upM_other _ _ hj⟩
  rw [h.cn] at r1
  generalize pageR S (k : Int) = R at *
  obtain ⟨x, S1⟩ := R
  simp only at p1 p2 p3 p4 p5 p9 p10 q1 q2 r1 r2 r3 r4 r5 r6 hsub hheld
  subst p1
  have hpk : k = pq → f.pins = 1 := fun e => by
    obtain ⟨f0, h0, h1⟩ := h.pin
    rw [← e] at h0
    rw [p7, h0]
    exact h1
  have hpo : k ≠ pq → f.pins = 0 := fun e => by
    rw [p7]
    cases hH : S.P.H k with
    | none => rfl
    | some f0 => exact h.oth k f0 hH e
  refine ⟨S1, rfl, ⟨r1, p2, q1, by rw [r3]; exact h.cn, by rw [r3]; exact h.st, q2.trans h.held, r4.trans h.at_, r5.trans h.pages, r6.trans h.frames, ?_, fun j g hj hn => ?_, ?_, fun j hj => by rw [p3 j (by rw [h.pages]; exact hj)]; exact h.con j hj, by rw [p9]; exact h.end_⟩, ⟨f, p5, by rw [p6, p3 k hk9]⟩, p9⟩
  · by_cases e : k = pq
    · exact ⟨f, by rw [← e]; exact p5, hpk e⟩
    · obtain ⟨f0, h0, h1⟩ := h.pin
      exact ⟨f0, p4 pq f0 (fun e2 => e e2.symm) h0 (by rw [h1]; decide), h1⟩
  · by_cases e : j = k
    · subst e
      rw [p5] at hj
      injection hj with hj
      rw [← hj]; exact hpo hn
    · exact h.oth j g (hsub j g e hj) hn
  · by_cases e : k = pq
    · rcases h.room with h1 | ⟨j, g, h1, h2⟩
      · exact .inl (by rw [(hheld e).1]; exact h1)
      · exact .inr ⟨j, g, h1, by rw [(hheld e).2 j (by rw [e]; exact h1)]; exact h2⟩
    · exact .inr ⟨k, f, e, p5⟩
theorem setS_way {f' : Fm} (h : Way S) : Way (setS S k f') := ⟨h.pen, h.cnt⟩
theorem sl_last (h : Sl S F pq c e la) (hk : k < 9) : (cont S k).2 < endOf S.L := by
  have g := h.good
  have h0 : (frameB (S.D.at (S.P.at_ + k))).last < endOf S.L := by
    have h1 := g.sure
    have h2 := g.pos
    rcases g.wal k (by rw [h.pages]; exact hk) with h3 | h3 <;> omega
  unfold cont
  cases hH : S.P.H k with
  | none => exact h0
  | some f =>
    by_cases hc : f.ch = true
    · have h1 := (g.ahead k f hH).2 hc
      have h2 := (g.ahead k f hH).1
      exact Nat.lt_of_le_of_lt h1 h2
    · have h1 := congrArg Prod.snd (g.same k f hH (by simpa using hc))
      show f.last < _
      rw [show f.last = (frameB (S.D.at (S.P.at_ + k))).last from h1]
      exact h0
theorem over3 (l : List UInt8) (v : UInt8) (h : l.length = 504) : (over l 3 [v])[3]? = some v := by
  unfold over
  rw [List.getElem?_append_right (by rw [List.length_take]; omega), List.length_take, h]
  rfl
theorem sl_write (h : Sl S F pq c e la) (hk : k < 9) (hf : S.P.H k = some f) (v : UInt8) (lsn : Nat) (hl : lsn < endOf S.L) (he : e ≤ 20000) : Sl (setS S k (chF f 3 [v] lsn)) F pq c e (fun j => if j = k then v else la j) := by
  obtain ⟨g1, g2⟩ := write_good h.good hf 3 [v] lsn hl
  have hfo := (h.ft.pool.page k f hf).2
  have h1 := h.end_
  refine ⟨setS_fit h.ft hf (chF_ok hfo 3 [v] lsn (by show 3 + 1 ≤ 504; decide) (by omega)) rfl, g1, setS_way h.way, h.cn, h.st, h.held, h.at_, h.pages, h.frames, ?_, fun j g hj hn => ?_, ?_, fun j hj => ?_, h.end_⟩
  · by_cases e : k = pq
    · obtain ⟨f0, h2, h3⟩ := h.pin
      rw [← e, hf] at h2
      injection h2 with h2
      refine ⟨chF f 3 [v] lsn, by rw [← e]; exact upM_same _ _ _, ?_⟩
      show f.pins = 1
      rw [h2]; exact h3
    · obtain ⟨f0, h2, h3⟩ := h.pin
      exact ⟨f0, (upM_other _ _ (fun e2 => e e2.symm)).trans h2, h3⟩
  · by_cases e : j = k
    · subst e
      have hj := Option.some.inj ((upM_same _ _ _).symm.trans hj)
      rw [← hj]
      exact h.oth j f hf hn
    · exact h.oth j g ((upM_other _ _ e).symm.trans hj) hn
  · rcases h.room with h2 | ⟨j, g, h2, h3⟩
    · exact .inl h2
    · by_cases e : j = k
      · subst e; exact .inr ⟨j, _, h2, upM_same _ _ _⟩
      · exact .inr ⟨j, g, h2, (upM_other _ _ e).trans h3⟩
  · rw [g2 j]
    by_cases e : j = k
    · rw [if_pos e, if_pos e]
      exact over3 _ _ hfo.by_
    · rw [if_neg e, if_neg e]
      exact h.con j hj
/-- A frame in whose place one of other pins is set. -/
theorem pins_good (g : Good S) (hf : S.P.H k = some f) (n : Nat) : Good (setS S k { f with pins := n }) ∧ ∀ j, cont (setS S k { f with pins := n }) j = cont S j := by
  refine ⟨⟨g.awk, g.apart, fun j g' hj hc' => ?_, fun j g' hj => ?_, g.wal, g.sure, g.pos⟩, fun j => ?_⟩
  · by_cases e : j = k
    · subst e
      have hj := Option.some.inj ((upM_same _ _ _).symm.trans hj)
      subst hj
      exact g.same j f hf hc'
    · exact g.same j g' ((upM_other _ _ e).symm.trans hj) hc'
  · by_cases e : j = k
    · subst e
      have hj := Option.some.inj ((upM_same _ _ _).symm.trans hj)
      subst hj
      exact g.ahead j f hf
    · exact g.ahead j g' ((upM_other _ _ e).symm.trans hj)
  · unfold cont setS
    by_cases e : j = k
    · subst e
      simp only [upM_same, hf]
    · simp only [upM_other _ _ e]
theorem sl_start (hp : pq < 9) (h2 : 2 ≤ F) (h4 : F ≤ 4) : ∃ S1, pageR (fS 9 F) (pq : Int) = (0, S1) ∧ ∀ f, S1.P.H pq = some f → Sl (setS S1 pq { f with pins := f.pins + 1 }) F pq 54 480 (fun _ => 0) := by
  have ft0 : (fS 9 F).Fit 10 := fresh_fit (by decide) (by decide) ⟨by omega, by omega⟩
  obtain ⟨g0, c0⟩ := fresh_good 9 F
  have w0 : Way (fS 9 F) := ⟨.inl rfl, fun i s h => by cases h⟩
  have hp9 : pq < (fS 9 F).P.pages := hp
  obtain ⟨p1, p2, p3, p4, ⟨f, p5, p6, p7, p8⟩, p9, p10⟩ := pageR_good g0 ft0 (by omega) hp9 (.inr (.inl (by show 0 < F; omega)))
  obtain ⟨q1, q2⟩ := pageR_way g0 w0 ft0 (by omega) (pq : Int)
  obtain ⟨r1, r2, r3, r4, r5, r6⟩ := pageR_fit ft0 (by omega) (pq : Int)
  have hsub := fun j f (hj : j ≠ pq) => pageR_sub (f := f) ft0 (by omega) hj
  have hn : (pageR (fS 9 F) (pq : Int)).2.P.n = 1 := by
    rw [page_new (i := pq) g0.awk ft0 hp9 rfl (by show 0 < F; omega)]
    rfl
  generalize pageR (fS 9 F) (pq : Int) = R at *
  obtain ⟨x, S1⟩ := R
  simp only at p1 p2 p3 p4 p5 p9 p10 q1 q2 r1 r2 r3 r4 r5 r6 hsub hn
  subst p1
  refine ⟨S1, rfl, fun f' hf' => ?_⟩
  obtain rfl : f = f' := Option.some.inj (p5.symm.trans hf')
  have hpin : f.pins = 0 := p7
  obtain ⟨g1, g2⟩ := pins_good p2 p5 (f.pins + 1)
  refine ⟨setS_fit r1 p5 (ok_pins (r1.pool.page pq f p5).2 _ (by rw [hpin]; decide)) rfl, g1, setS_way q1, by show S1.L.hd.cn = 40; rw [r3]; rfl, by show S1.L.hd.st = 480; rw [r3]; rfl, q2, r4, r5, r6, ⟨_, upM_same _ _ _, by show f.pins + 1 = 1; rw [hpin]⟩, fun j g hj hne => ?_, .inl (by show S1.P.n < F; omega), fun j hj => ?_, ?_⟩
  · have h1 := hsub j g hne ((upM_other _ _ hne).symm.trans hj)
    cases h1
  · rw [g2 j, p3 j hj, c0 j hj]
    rfl
  · show endOf S1.L ≤ 480
    rw [p9]
    show flo 480 + 0 ≤ 480
    decide
/-- The end: the page is let go, all is flushed, the power falls: the sectors hold the pages. -/
theorem sl_unpin (h : Sl S F pq c e la) : unpE S.P pq = 0 ∧ (unpS S pq).Fit c ∧ Good (unpS S pq) ∧ Way (unpS S pq) ∧ (unpS S pq).L.hd.cn = 40 ∧ (unpS S pq).P.at_ = 41 ∧ (unpS S pq).P.pages = 9 ∧ (unpS S pq).P.n = S.P.n ∧ ∀ j, j < 9 → (cont (unpS S pq) j).1[3]? = some (la j) := by
  obtain ⟨f, hf, hp⟩ := h.pin
  have hu : unpS S pq = setS S pq { f with pins := 0 } := by
    unfold unpS
    rw [hf]
    show (if f.pins = 0 then S else setS S pq { f with pins := f.pins - 1 }) = _
    rw [if_neg (by rw [hp]; decide), hp]
  obtain ⟨g1, g2⟩ := pins_good h.good hf 0
  rw [hu]
  exact ⟨by unfold unpE; rw [hf]; exact if_neg (by rw [hp]; decide), setS_fit h.ft hf (ok_pins (h.ft.pool.page pq f hf).2 0 (by decide)) rfl, g1, setS_way h.way, h.cn, h.at_, h.pages, rfl, fun j hj => by rw [g2 j]; exact h.con j hj⟩
theorem sl_end (h : Sl S F pq c e la) (hc : c ≤ 100000) (hF : F ≤ 4) {zs : List Nat} (hz : ChL (unpS S pq).P zs) (hzn : zs.length ≤ (unpS S pq).P.n) : (pflR zs (unpS S pq)).1 = 0 ∧ Bd (pflR zs (unpS S pq)).2.D ∧ Bd ((pflR zs (unpS S pq)).2.D.fallen []) ∧
    ∀ j, j < 9 → gE ((pflR zs (unpS S pq)).2.D.fallen []) ((41 + j : Nat) : Int) = 0 ∧ (gB ((pflR zs (unpS S pq)).2.D.fallen []) ((41 + j : Nat) : Int)).length = 512 ∧ (gB ((pflR zs (unpS S pq)).2.D.fallen []) ((41 + j : Nat) : Int))[11]? = some (la j) := by
  obtain ⟨u1, u2, u3, u4, u5, u6, u7, u8, u9⟩ := sl_unpin h
  have hn : zs.length ≤ 4 := by have h1 := u2.pool.cnt; rw [u8] at hzn; have h2 := h.ft.pool.cnt; rw [h.frames] at h2; omega
  obtain ⟨i1, i2, i3, i4, i5, i6⟩ := pflR_good u3 u4 u2 (by rw [u5]; have := Nat.mul_le_mul_right (40 + 3) hn; omega) hz
  have hd : 50 ≤ (unpS S pq).D.dur.length := by have h1 := u2.pool.at_; rw [u6, u7] at h1; exact h1
  have b2 := (fallen_bd i4 []).1
  have hlen : ((pflR zs (unpS S pq)).2.D.fallen []).dur.length = (pflR zs (unpS S pq)).2.D.dur.length := (fallen_bd i4 []).2.2.2
  refine ⟨i1, i4, b2, fun j hj => ?_⟩
  have h2 : ¬ (((41 + j : Nat) : Int) < 0 ∨ (((pflR zs (unpS S pq)).2.D.fallen []).dur.length : Int) ≤ ((41 + j : Nat) : Int)) := by rw [hlen, i5]; omega
  have h3 : ¬ ((pflR zs (unpS S pq)).2.D.fallen []).off = true := by show ¬ false = true; decide
  have hg : gB ((pflR zs (unpS S pq)).2.D.fallen []) ((41 + j : Nat) : Int) = (pflR zs (unpS S pq)).2.D.at (41 + j) := by
    unfold gB
    rw [if_neg h2, if_neg h3, Int.toNat_natCast, fallen_at i2]
  refine ⟨by unfold gE; rw [if_neg h2, if_neg h3], by rw [hg]; exact at_len i4 _ (by rw [i5]; omega), ?_⟩
  have h4 := congrArg Prod.fst (i6 j (by rw [u7]; exact hj))
  have h5 := u9 j hj
  rw [← h4, u6] at h5
  rw [hg]
  have h6 : (((pflR zs (unpS S pq)).2.D.at (41 + j)).drop 8)[3]? = some (la j) := h5
  rw [List.getElem?_drop] at h6
  exact h6
end
end Go.Proofs.YtklbaddoomlkeaaDoor
namespace Go.Proofs.YtklbaddoomlkeaaDoor
open Go.RowKit

theorem PlAt.not_arr {w0 w : World} {Z : Pk} {D : Dk} {L : Lg} {P : Pl} (h : PlAt w0 w Z D L P) {k : Nat} {vs : List Value} (hr : Rw w k 38 vs) : ¬ Z.has P k := fun hh => by
  rcases hh with hh | rfl | rfl | rfl | ⟨i, f, hf, rfl⟩
  · exact h.log.not_rw hr (by decide) hh
  · exact h.blk.apart hr (by decide) rfl
  · exact rw_ne_map hr h.held rfl
  · exact rw_ne_map hr h.way rfl
  · exact (h.fr i f hf).apart hr (by decide) rfl
def Wz (w0 w : World) (b g q p k : Nat) (vs : List Value) (S : St) : Prop := ∃ Z, PlAt w0 w Z S.D S.L S.P ∧ Z.X.g = g ∧ Z.X.q = q ∧ Z.q = p ∧ Rw w b 30 [.pointer (some ⟨g, 0, none⟩), .pointer (some ⟨q, 0, none⟩), .pointer (some ⟨p, 0, none⟩)] ∧ Rw w k 38 vs ∧ w0.heap.size ≤ k
def WQ (w0 : World) (b g q p k : Nat) (vs : List Value) (r : Value) (S' : St) (e : Ending) (w' : World) : Prop := e = .returned r ∧ Wz w0 w' b g q p k vs S'
section
variable {w0 w w' : World} {b g q p k c : Nat} {vs : List Value} {S S' : St} {r : Value}
theorem Wz.ext (h : Wz w0 w b g q p k vs S) : Ext w0 w := by obtain ⟨Z, h1, -⟩ := h; exact h1.log.ext
theorem Wz.ext_ (h : Wz w0 w b g q p k vs S) (hx : Ext w w') : Wz w0 w' b g q p k vs S := by
  obtain ⟨Z, h1, h2, h3, h4, h5, h6, h7⟩ := h
  exact ⟨Z, h1.ext_ hx, h2, h3, h4, h5.ext hx, h6.ext hx, h7⟩
theorem Wz.c0 (h : Wz w0 w b g q p k vs S) : w.cell? ⟨b, 0, none⟩ = some (.pointer (some ⟨g, 0, none⟩)) := by obtain ⟨Z, h1, h2, h3, h4, h5, h6, h7⟩ := h; exact h5.cell (i := 0) rfl
theorem Wz.c1 (h : Wz w0 w b g q p k vs S) : w.cell? ⟨b, 1, none⟩ = some (.pointer (some ⟨q, 0, none⟩)) := by obtain ⟨Z, h1, h2, h3, h4, h5, h6, h7⟩ := h; exact h5.cell (i := 1) rfl
theorem Wz.c2 (h : Wz w0 w b g q p k vs S) : w.cell? ⟨b, 2, none⟩ = some (.pointer (some ⟨p, 0, none⟩)) := by obtain ⟨Z, h1, h2, h3, h4, h5, h6, h7⟩ := h; exact h5.cell (i := 2) rfl
theorem Wz.later {Z Z' : Pk} {P : Pl} (h1 : PlAt w0 w Z S.D S.L P) (h2 : Z.X.g = g) (h3 : Z.X.q = q) (h4 : Z.q = p) (h5 : Rw w b 30 [.pointer (some ⟨g, 0, none⟩), .pointer (some ⟨q, 0, none⟩), .pointer (some ⟨p, 0, none⟩)]) (h6 : Rw w k 38 vs) (h7 : w0.heap.size ≤ k)
    (k1 : PlAt w0 w' Z' S'.D S'.L S'.P) (k2 : Pfr Z P w w') (k3 : Z'.Later S'.P Z P w) : Wz w0 w' b g q p k vs S' := ⟨Z', k1, k3.X.g.trans h2, k3.X.q.trans h3, k3.q.trans h4, Pfr.world h1 k2 h5, (k2.other k h6.lt (h1.not_arr h6)).trans h6, h7⟩
theorem wz_append (h : Wz w0 w b g q p k vs S) (ft : S.Fit c) (o : Obj) (l : List UInt8) (n cc : Nat) (hr : Rd (w.alloc o) (some ⟨w.heap.size, 0, none⟩) l) (hn : l.length = n) (h1 : 0 < n) (h2 : n ≤ 1200) (hst : S.L.hd.st < 576460752303423488) (hroom : (0 : Int) ≤ roomOf S.L - 2 - (n : Int)) :
    Calls Tryd.prog 11 #[.pointer (some ⟨q, 0, none⟩), .slice (some ⟨w.heap.size, 0, none⟩) n cc, .int .i64 0] (w.alloc o) (WQ w0 b g q p k vs (.tuple #[.int .u64 (endOf S.L : Int), .int .i64 0]) (apS S l)) := by
  obtain ⟨Z, k1, k2, k3, k4, k5, k6, k7⟩ := h
  subst k3
  refine (pappend_any (k1.ext_ (Ext.alloc w o)) ft (some ⟨w.heap.size, 0, none⟩) cc n l hr hn h1 h2 (fun a ha => by injection ha with ha; subst ha; exact ⟨new_notP k1, by simp⟩) hst hroom).mono fun e w' hh => ?_
  obtain ⟨Z', he, -, hl, hf, hn2⟩ := hh
  exact ⟨he, Wz.later (S' := apS S l) (k1.ext_ (Ext.alloc w o)) k2 rfl k4 (k5.ext (Ext.alloc w o)) (k6.ext (Ext.alloc w o)) k7 hl hf hn2⟩
theorem wz_write (h : Wz w0 w b g q p k vs S) (ft : S.Fit c) (hc : c ≤ 400000) (hT : Tab w0) (x : Int) (S1 : St) (hp : pageR S x = (0, S1)) (o : Obj) (off : Nat) (m : List UInt8) (n cc : Nat) (hr : Rd (w.alloc o) (some ⟨w.heap.size, 0, none⟩) m) (hn : m.length = n) (hm : off + n ≤ 504) (lsn : Nat) :
    Calls Tryd.prog 12 #[.pointer (some ⟨p, 0, none⟩), .int .i64 x, .int .i64 (off : Int), .slice (some ⟨w.heap.size, 0, none⟩) n cc, .int .u64 (lsn : Int)] (w.alloc o) (fun e w' => ∃ f, S1.P.H x.toNat = some f ∧ WQ w0 b g q p k vs (.int .i64 0) (setS S1 x.toNat (chF f off m lsn)) e w') := by
  obtain ⟨Z, k1, k2, k3, k4, k5, k6, k7⟩ := h
  subst k4
  refine (pwrite_ok (k1.ext_ (Ext.alloc w o)) ft hc hT x S1 hp off (some ⟨w.heap.size, 0, none⟩) m n cc hn hm hr (fun a ha => by injection ha with ha; subst ha; exact ⟨new_notP k1, by simp⟩) lsn).mono fun e w' hh => ?_
  obtain ⟨f, hf, Z', he, hl, hpf, hn2⟩ := hh
  exact ⟨f, hf, he, Wz.later (k1.ext_ (Ext.alloc w o)) k2 k3 rfl (k5.ext (Ext.alloc w o)) (k6.ext (Ext.alloc w o)) k7 hl hpf hn2⟩
theorem wz_read (h : Wz w0 w b g q p k vs S) (ft : S.Fit c) (hc : c ≤ 400000) (hT : Tab w0) (x : Int) (S1 : St) (hp : pageR S x = (0, S1)) :
    Calls Tryd.prog 8 #[.pointer (some ⟨p, 0, none⟩), .int .i64 x] w (fun e w' => ∃ f A cc, S1.P.H x.toNat = some f ∧ e = .returned (.tuple #[.slice A 504 cc, .int .u64 (f.last : Int), .int .i64 0]) ∧ Rd w' A f.by_ ∧ Wz w0 w' b g q p k vs S1) := by
  obtain ⟨Z, k1, k2, k3, k4, k5, k6, k7⟩ := h
  subst k4
  refine (pread_ok k1 ft hc hT x S1 hp).mono fun e w' hh => ?_
  obtain ⟨f, Z', A, cc, hf, he, hrd, -, hl, hpf, hn2⟩ := hh
  exact ⟨f, A, cc, hf, he, hrd, Wz.later k1 k2 k3 rfl k5 k6 k7 hl hpf hn2⟩
theorem wz_read_not (h : Wz w0 w b g q p k vs S) (ft : S.Fit c) (hc : c ≤ 400000) (hT : Tab w0) (x er : Int) (S1 : St) (hp : pageR S x = (er, S1)) (he0 : er ≠ 0) :
    Calls Tryd.prog 8 #[.pointer (some ⟨p, 0, none⟩), .int .i64 x] w (WQ w0 b g q p k vs (.tuple #[.slice none 0 0, .int .u64 0, .int .i64 er]) S1) := by
  obtain ⟨Z, k1, k2, k3, k4, k5, k6, k7⟩ := h
  subst k4
  refine (pread_not k1 ft hc hT x er S1 hp he0).mono fun e w' hh => ?_
  obtain ⟨Z', he, hl, hpf, hn2⟩ := hh
  exact ⟨he, Wz.later k1 k2 k3 rfl k5 k6 k7 hl hpf hn2⟩
theorem wz_pin (h : Wz w0 w b g q p k vs S) (ft : S.Fit c) (hc : c ≤ 400000) (hT : Tab w0) (x : Int) (S1 : St) (hp : pageR S x = (0, S1)) :
    Calls Tryd.prog 7 #[.pointer (some ⟨p, 0, none⟩), .int .i64 x] w (fun e w' => ∃ f, S1.P.H x.toNat = some f ∧ WQ w0 b g q p k vs (.int .i64 0) (setS S1 x.toNat { f with pins := f.pins + 1 }) e w') := by
  obtain ⟨Z, k1, k2, k3, k4, k5, k6, k7⟩ := h
  subst k4
  refine (pin_ok k1 ft hc hT x S1 hp).mono fun e w' hh => ?_
  obtain ⟨f, hf, Z', he, hl, hpf, hn2⟩ := hh
  exact ⟨f, hf, he, Wz.later k1 k2 k3 rfl k5 k6 k7 hl hpf hn2⟩
theorem wz_unpin (h : Wz w0 w b g q p k vs S) (ft : S.Fit c) (i : Nat) (hi : i < S.P.pages) :
    Calls Tryd.prog 9 #[.pointer (some ⟨p, 0, none⟩), .int .i64 (i : Int)] w (WQ w0 b g q p k vs (.int .i64 (unpE S.P i)) (unpS S i)) := by
  obtain ⟨Z, k1, k2, k3, k4, k5, k6, k7⟩ := h
  subst k4
  refine (unpin_any k1 ft i hi).mono fun e w' hh => ?_
  obtain ⟨Z', he, hl, hpf, hn2⟩ := hh
  refine ⟨he, Wz.later k1 k2 k3 rfl k5 k6 k7 ?_ hpf hn2⟩
  rw [(unpS_is S i).1, (unpS_is S i).2]
  exact hl
theorem wz_len (h : Wz w0 w b g q p k vs S) : Calls Tryd.prog 10 #[.pointer (some ⟨p, 0, none⟩)] w (Same w (.int .i64 (S.P.n : Int))) := by
  obtain ⟨Z, k1, k2, k3, k4, k5, k6, k7⟩ := h
  subst k4
  exact plen_any k1
theorem wz_sure (h : Wz w0 w b g q p k vs S) : Calls Tryd.prog 18 #[.pointer (some ⟨q, 0, none⟩)] w (Same w (.int .u64 (S.L.sure : Int))) := by
  obtain ⟨Z, k1, k2, k3, k4, k5, k6, k7⟩ := h
  subst k3
  exact lsure_any k1.log
/-- The array is written. -/
theorem Wz.put (h : Wz w0 w b g q p k vs S) (i : Nat) (v : Value) : Wz w0 (w.setCell ⟨k, i, none⟩ v) b g q p k (vs.set i v) S := by
  obtain ⟨Z, h1, h2, h3, h4, h5, h6, h7⟩ := h
  have o := fun j (hj : j ≠ k) => Below.heap_setCell w ⟨k, i, none⟩ v j hj
  have hb : b ≠ k := h5.apart h6 (by decide)
  exact ⟨Z, h1.keep (own1_ext h1.log.ext h7 (cell_rest _ _ _) o) fun j hj => o j fun e => h1.not_arr h6 (e ▸ hj), h2, h3, h4, (o b hb).trans h5, h6.set i v, h7⟩
theorem wz_of (h : Wd w0 w b g q p S) (hx : w.heap.size ≤ k) (w' : World) (hw : Ext w w') (hr : Rw w' k 38 vs) : Wz w0 w' b g q p k vs S := by
  have h0 := (h.ext).size
  obtain ⟨Z, h1, h2, h3, h4, h5⟩ := h.ext_ hw
  exact ⟨Z, h1, h2, h3, h4, h5, hr, Nat.le_trans h0 hx⟩
theorem Wz.arr (h : Wz w0 w b g q p k vs S) : Rw w k 38 vs := by obtain ⟨Z, h1, h2, h3, h4, h5, h6, h7⟩ := h; exact h6
theorem wz_end (h : Wz w0 w b g q p k vs S) (ft : S.Fit c) : Calls Tryd.prog 13 #[.pointer (some ⟨q, 0, none⟩)] w (fun e w' => e = .returned (.int .u64 (endOf S.L : Int)) ∧ ∃ m, w' = w.drewN m) := by
  obtain ⟨Z, k1, k2, k3, k4, k5, k6, k7⟩ := h
  subst k3
  exact end_any k1.log ft.log
theorem wz_dread (h : Wz w0 w b g q p k vs S) (bd : Bd S.D) (i : Int) : Calls Tryd.prog 17 #[.pointer (some ⟨g, 0, none⟩), .int .i64 i] w (fun e w' => ∃ A n c, e = .returned (.tuple #[.slice A n c, .int .i64 (gE S.D i)]) ∧ n = (gB S.D i).length ∧ n ≤ c ∧ Rd w' A (gB S.D i) ∧ Ext w w') := by
  obtain ⟨Z, k1, k2, k3, k4, k5, k6, k7⟩ := h
  subst k2
  refine (read_new k1.log.disk bd i).mono fun e w' hh => ?_
  obtain ⟨A, n, c, he, hn, hc, hr, -, hx⟩ := hh
  exact ⟨A, n, c, he, hn, hc, hr, hx⟩
theorem wz_flush (h : Wz w0 w b g q p k vs S) (ft : S.Fit c) (hc : c + S.P.n * (S.L.hd.cn + 3) ≤ 300000) (hT : Tab w0) (hoff : S.D.off = false) : Calls Tryd.prog 15 #[.pointer (some ⟨p, 0, none⟩)] w (fun e w' => ∃ zs, ChL S.P zs ∧ zs.length ≤ S.P.n ∧ WQ w0 b g q p k vs (.int .i64 (pflR zs S).1) (pflR zs S).2 e w') := by
  obtain ⟨Z, k1, k2, k3, k4, k5, k6, k7⟩ := h
  subst k4
  refine (pflush_any k1 (by cases S; exact ft) hc hT hoff).mono fun e w' hh => ?_
  obtain ⟨zs, h1, h2, Z', he, hl, hf, hn⟩ := hh
  exact ⟨zs, h1, h2, he, Wz.later (S := S) k1 k2 k3 rfl k5 k6 k7 hl hf hn⟩
theorem wz_restart (h : Wz w0 w b g q p k vs S) (bd : Bd S.D) : Calls Tryd.prog 16 #[.pointer (some ⟨g, 0, none⟩), .slice none 0 0] w (WQ w0 b g q p k vs (.int .i64 0) { S with D := S.D.fallen [] }) := by
  obtain ⟨Z, k1, k2, k3, k4, k5, k6, k7⟩ := h
  subst k2
  refine (restart_any (ck := 0) (P := none) k1.log.disk bd.ok bd.pen k1.log.ext.size [] (fun W _ hn => absurd rfl hn)).mono fun e w' hh => ?_
  obtain ⟨Z', he, hl, hf, hn⟩ := PPost.of_dpost k1 hh
  exact ⟨he, Wz.later (S' := { S with D := S.D.fallen [] }) k1 rfl k3 k4 k5 k6 k7 hl hf hn⟩
end
end Go.Proofs.YtklbaddoomlkeaaDoor
namespace Go.Proofs.YtklbaddoomlkeaaDoor
open Go.RowKit

section
variable {w0 w : World} {b g q p k c : Nat} {vs : List Value} {S : St}
set_option maxRecDepth 20000 in
set_option maxHeartbeats 3200000 in
theorem wsure_any (h : Wz w0 w b g q p k vs S) (g0 : Good S) (ft : S.Fit c) (hat : S.P.at_ = 41) (hpg : S.P.pages = 9) : Calls Tryd.prog 14 #[.pointer (some ⟨b, 0, none⟩), .int .i64 9] w (fun e w' => e = .returned (.bool true) ∧ Ext w w') := by
  have H := hide h
  have HFT := hide ft
  have HG := hide g0
  have HDL : Hid (50 ≤ S.D.dur.length) := hide (by have h1 := ft.pool.at_; rw [hat, hpg] at h1; exact h1)
  have HAT := hide hat
  have HPG := hide hpg
  clear h ft g0 hat hpg
  go_enter Tryd.func14, Tryd.ntmps14
  go_upto_region 2 with fail
  go_loopw [5] (fun x wr => ∃ i : Nat, x = .int .i64 (i : Int) ∧ Hid (i ≤ 9) ∧ Hid (Ext w wr)) (fun x _ => 9 - (intOf x).toNat)
  case atStart => exact ⟨0, rfl, hide (Nat.zero_le _), hide (Ext.refl _)⟩
  case round =>
    obtain ⟨i, rfl, HI, HX⟩ := hrel
    have HW := hide (H.out.ext_ HX.out)
    have c0 := HW.out.c0
    by_cases hi : i < 9
    · have hii : (i : Int) < 9 := by omega
      have hkw : IntKind.i64.wrap ((i : Int) + 1) = ((i + 1 : Nat) : Int) := by rw [IntKind.wrap_i64]; omega
      obtain ⟨s, HS⟩ : ∃ s : Int, Hid (((41 + i : Nat) : Int) = s) := ⟨_, hide rfl⟩
      have hsw : IntKind.i64.wrap (41 + (i : Int)) = s := by rw [IntKind.wrap_i64]; have := HS.out; omega
      obtain ⟨l, HL⟩ : ∃ l, Hid (S.D.at (41 + i) = l) := ⟨_, hide rfl⟩
      have HLL : Hid (l.length = 512) := hide (by rw [← HL.out]; exact at_len HFT.out.bd _ (by have := HDL.out; omega))
      have HGE : Hid (gE S.D s = 0 ∧ gB S.D s = l) := hide (by
        rw [← HS.out]
        have h1 := HDL.out
        have h2 : ¬ (((41 + i : Nat) : Int) < 0 ∨ (S.D.dur.length : Int) ≤ ((41 + i : Nat) : Int)) := by omega
        have h3 : ¬ S.D.off = true := by rw [HG.out.awk.1]; decide
        unfold gE gB
        rw [if_neg h2, if_neg h2, if_neg h3, if_neg h3, Int.toNat_natCast]
        exact ⟨rfl, HL.out⟩)
      have KR : Hid (Calls Tryd.prog 17 #[.pointer (some ⟨g, 0, none⟩), .int .i64 s] wr (fun e w' => ∃ A c, e = .returned (.tuple #[.slice A 512 c, .int .i64 0]) ∧ Rd w' A l ∧ Ext wr w')) := hide ((wz_dread HW.out HFT.out.bd s).mono fun e w' hh => by
        obtain ⟨A, n, c, he, hn, -, hr, hx⟩ := hh
        rw [HGE.out.2] at hn hr
        rw [HLL.out] at hn
        subst hn
        rw [HGE.out.1] at he
        exact ⟨A, c, he, hr, hx⟩)
      obtain ⟨ls, HLS⟩ : ∃ ls : Nat, Hid ((ls : Int) = num (l.take 8)) := ⟨(num (l.take 8)).toNat, hide (by have := (num_bound (l.take 8)).1; omega)⟩
      have HRN : Hid (rdNum l 0 = ((ls : Int), 8, 0)) := hide (by
        unfold rdNum
        rw [HLL.out, if_neg (by omega), if_neg (by omega), HLS.out]
        rfl)
      have KU : Hid (∀ W A cc, Rd W A l → Calls Tryd.prog 30 #[.slice A 512 cc, .int .i64 0] W (Same W (.tuple #[.int .u64 (ls : Int), .int .i64 8, .int .i64 0]))) := hide (fun W A cc hr => by
        have k1 := rreadUint_any A cc l 0 W hr (by rw [HLL.out]; decide) (by decide)
        rw [HRN.out, HLL.out] at k1
        exact k1)
      obtain ⟨su, HSU⟩ : ∃ su, Hid (S.L.sure = su) := ⟨_, hide rfl⟩
      have KSU : Hid (∀ W, Ext wr W → Calls Tryd.prog 18 #[.pointer (some ⟨q, 0, none⟩)] W (Same W (.int .u64 (su : Int)))) := hide (fun W hW => by
        have k1 := wz_sure (HW.out.ext_ hW)
        rw [HSU.out] at k1
        exact k1)
      have hwal : ls < su ∨ ls = 0 := by
        have h1 := HG.out.wal i (by rw [HPG.out]; exact hi)
        rw [HAT.out, HL.out, HSU.out] at h1
        have h2 : (frameB l).last = ls := by
          unfold frameB
          show (num (l.take 8)).toNat = ls
          have := HLS.out
          omega
        rw [h2] at h1
        exact h1
      have HWL := hide hwal
      have HII := hide hi
      obtain ⟨i1, HI1⟩ : ∃ i1, Hid (i + 1 = i1) := ⟨_, hide rfl⟩
      rw [HI1.out] at hkw
      clear hwal hi
      go_upto_region 6 with (first
        | (go_at_call 17; (with_reducible refine KR.out.mono ?_); rintro e w2 ⟨A2, cc2, rfl, hr2, hx2⟩; have HR2 := hide hr2; have HX2 := hide hx2; clear hr2 hx2)
        | (go_at_call 30; (with_reducible refine (KU.out w2 A2 cc2 HR2.out).mono ?_); rintro e w3 ⟨rfl, hw3⟩; subst hw3))
      have d1 := (HW.out.ext_ HX2.out).c1
      by_cases hl : ls < su
      · have hli : ¬ (su : Int) ≤ (ls : Int) := by omega
        go_wp2_with (go_at_call 18; (with_reducible refine (KSU.out w2 HX2.out).mono ?_); rintro e w4 ⟨rfl, hw4⟩; subst hw4)
        refine ⟨⟨i1, rfl, hide (by have := HII.out; have := HI1.out; omega), hide (HX.out.trans HX2.out)⟩, ?_⟩
        show 9 - ((i1 : Int)).toNat < 9 - ((i : Int)).toNat
        have := HII.out; have := HI1.out; omega
      · obtain rfl : ls = 0 := by have := HWL.out; omega
        have hli : (su : Int) ≤ 0 := by omega
        go_wp2_with (go_at_call 18; (with_reducible refine (KSU.out w2 HX2.out).mono ?_); rintro e w4 ⟨rfl, hw4⟩; subst hw4)
        refine ⟨⟨i1, rfl, hide (by have := HII.out; have := HI1.out; omega), hide (HX.out.trans HX2.out)⟩, ?_⟩
        show 9 - ((i1 : Int)).toNat < 9 - ((i : Int)).toNat
        have := HII.out; have := HI1.out; omega
    · obtain rfl : i = 9 := by have := HI.out; omega
      clear hi
      go_wp2
      go_ret
      exact ⟨rfl, HX.out⟩
end
end Go.Proofs.YtklbaddoomlkeaaDoor
