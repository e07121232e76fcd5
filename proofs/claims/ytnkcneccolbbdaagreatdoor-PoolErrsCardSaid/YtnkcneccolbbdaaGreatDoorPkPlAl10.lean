/-
  Contracts of the library's functions at this program, laid by the shelf's command in its plain mode.
  The pages that are other than on the disk, rising: changed.
  All pages on the disk, and durable: Flush.
  The pool's way to the disk, plain: what is pending is told, and Flush leaves all durable.
  What holds of a pool through any calls, plain: its pages, its pins, what is told dirty.
  What holds of a pool stays through each call (plain).
  What holds of a pool stays through its Flush, and then none is dirty (plain).
-/
import Derived.Shelf.Small.Bits
import Derived.Shelf.Strconv.Itoa0
import Derived.Shelf.Sort.Plain
import Derived.Shelf.Slices.SearchI
import Derived.Shelf.Slices.In.SortNone
import Derived.Shelf.Bytes.Small
import Derived.Ground.Names2Prog
import Derived.Test.YtnkcneccolbbdaaGreatDoorProg
import Derived.Sort.Grow
import Derived.Laws.AppendOwn
import Derived.Test.YtnkcneccolbbdaaGreatDoorPkPlAl6
import Derived.Test.YtnkcneccolbbdaaGreatDoorPkPlAl7
import Derived.Test.YtnkcneccolbbdaaGreatDoorPkPlAl8
set_option linter.unusedVariables false
set_option linter.unusedSimpArgs false

namespace Go.Proofs.YtnkcneccolbbdaaGreatDoor
open Go.Shelf
def Tryz.lays189_ren : Go.Shelf.Ren := ⟨fun | 189 => 58 | 125 => 65 | 257 => 80 | 128 => 89 | 129 => 90 | 294 => 98 | 295 => 99 | 296 => 100 | 297 => 101 | 298 => 102 | 299 => 103 | 216 => 104 | 300 => 105 | 301 => 106 | 328 => 113 | 329 => 108 | 330 => 109 | 331 => 114 | 332 => 115 | 215 => 66 | 343 => 117 | n => n, fun | 28 => 27 | 3 => 3 | 46 => 116 | 0 => 0 | 51 => 143 | 53 => 33 | 4 => 4 | 183 => 136 | 182 => 135 | 131 => 140 | 5 => 5 | 9 => 9 | 218 => 157 | 222 => 160 | 228 => 166 | 229 => 167 | n => n, fun | n => n⟩
theorem Tryz.lays189 : Go.Proofs.Lays.n189 Tryz.prog Tryz.lays189_ren := {
  mixed := by kernel_rfl
  f125 := Tryz.func65.trans (congrArg some (by kernel_rfl))
  f128 := Tryz.func89.trans (congrArg some (by kernel_rfl))
  f129 := Tryz.func90.trans (congrArg some (by kernel_rfl))
  f189 := Tryz.func58.trans (congrArg some (by kernel_rfl))
  f215 := Tryz.func66.trans (congrArg some (by kernel_rfl))
  f216 := Tryz.func104.trans (congrArg some (by kernel_rfl))
  f257 := Tryz.func80.trans (congrArg some (by kernel_rfl))
  f294 := Tryz.func98.trans (congrArg some (by kernel_rfl))
  f295 := Tryz.func99.trans (congrArg some (by kernel_rfl))
  f296 := Tryz.func100.trans (congrArg some (by kernel_rfl))
  f297 := Tryz.func101.trans (congrArg some (by kernel_rfl))
  f298 := Tryz.func102.trans (congrArg some (by kernel_rfl))
  f299 := Tryz.func103.trans (congrArg some (by kernel_rfl))
  f300 := Tryz.func105.trans (congrArg some (by kernel_rfl))
  f301 := Tryz.func106.trans (congrArg some (by kernel_rfl))
  f328 := Tryz.func113.trans (congrArg some (by kernel_rfl))
  f329 := Tryz.func108.trans (congrArg some (by kernel_rfl))
  f330 := Tryz.func109.trans (congrArg some (by kernel_rfl))
  f331 := Tryz.func114.trans (congrArg some (by kernel_rfl))
  f332 := Tryz.func115.trans (congrArg some (by kernel_rfl))
  f343 := Tryz.func117.trans (congrArg some (by kernel_rfl))
  t0 := Tryz.underlying0
  a0 := Tryz.isAgg0
  z0 := Tryz.sizeOf0
  v0 := Tryz.zeroValue0
  t3 := Tryz.underlying3
  a3 := Tryz.isAgg3
  z3 := Tryz.sizeOf3
  v3 := Tryz.zeroValue3
  t4 := Tryz.underlying4
  a4 := Tryz.isAgg4
  z4 := Tryz.sizeOf4
  v4 := Tryz.zeroValue4
  t5 := Tryz.underlying5
  a5 := Tryz.isAgg5
  z5 := Tryz.sizeOf5
  v5 := Tryz.zeroValue5
  t9 := Tryz.underlying9
  a9 := Tryz.isAgg9
  z9 := Tryz.sizeOf9
  v9 := Tryz.zeroValue9
  t28 := Tryz.underlying27
  a28 := Tryz.isAgg27
  z28 := Tryz.sizeOf27
  v28 := Tryz.zeroValue27
  t46 := Tryz.underlying116
  a46 := Tryz.isAgg116
  z46 := Tryz.sizeOf116
  v46 := Tryz.zeroValue116
  t51 := Tryz.underlying143
  a51 := Tryz.isAgg143
  z51 := Tryz.sizeOf143
  v51 := Tryz.zeroValue143
  t53 := Tryz.underlying33
  a53 := Tryz.isAgg33
  z53 := Tryz.sizeOf33
  v53 := Tryz.zeroValue33
  t131 := Tryz.underlying140
  a131 := Tryz.isAgg140
  z131 := Tryz.sizeOf140
  v131 := Tryz.zeroValue140
  t182 := Tryz.underlying135
  a182 := Tryz.isAgg135
  z182 := Tryz.sizeOf135
  v182 := Tryz.zeroValue135
  t183 := Tryz.underlying136
  a183 := Tryz.isAgg136
  z183 := Tryz.sizeOf136
  v183 := Tryz.zeroValue136
  t218 := Tryz.underlying157
  a218 := Tryz.isAgg157
  z218 := Tryz.sizeOf157
  v218 := Tryz.zeroValue157
  t222 := Tryz.underlying160
  a222 := Tryz.isAgg160
  z222 := Tryz.sizeOf160
  v222 := Tryz.zeroValue160
  t228 := Tryz.underlying166
  a228 := Tryz.isAgg166
  z228 := Tryz.sizeOf166
  v228 := Tryz.zeroValue166
  t229 := Tryz.underlying167
  a229 := Tryz.isAgg167
  z229 := Tryz.sizeOf167
  v229 := Tryz.zeroValue167 }
open Go.Sort Go.RowKit in
theorem Tryz.slices_Sort_int (blk off cap : Nat) (zs : List Int) (w : World) (hH : Holds (Value.int .i64) w blk off zs.toArray) (hblk : blk < w.heap.size) (hsz : zs.length < 4611686018427387904) :
    Calls Tryz.prog 58 #[.slice (some ⟨blk, off, none⟩) zs.length cap] w fun e w' =>
      e = .returned (.tuple #[]) ∧ ∃ n os, w' = grow (putRow (Value.int .i64) (Sort.ahead w n) blk off (zs.mergeSort fun x y => decide (x ≤ y)).toArray) os := Any.slices_Sort_int Tryz.lays189 blk off cap zs w hH hblk hsz
open Go.RowKit Go.Sort in
/-- .. and plain. (LAID: no walk: one application.) -/
theorem Tryz.slices_Sort_int_none (p : Option Addr) (cap : Nat) (w : World) :
    Calls Tryz.prog 58 #[.slice p 0 cap] w fun e w' => e = .returned (.tuple #[]) ∧ w' = w := Any.slices_Sort_int_none Tryz.lays189 p cap w
end Go.Proofs.YtnkcneccolbbdaaGreatDoor
namespace Go.Proofs.YtnkcneccolbbdaaGreatDoor
open Go.RowKit

def iV (l : List Nat) : List Value := l.map fun (i : Nat) => .int .i64 (i : Int)
theorem iV_len (l : List Nat) : (iV l).length = l.length := by unfold iV; rw [List.length_map]
theorem iV_at {l : List Nat} {j x : Nat} (h : l[j]? = some x) : (iV l)[j]? = some (.int .i64 (x : Int)) := by unfold iV; rw [List.getElem?_map, h]; rfl
/-- The changed pages. -/
structure ChL (P : Pl) (zs : List Nat) : Prop where
  nodup : zs.Nodup
  mem : ∀ i, i ∈ zs ↔ ∃ f, P.H i = some f ∧ f.ch = true
/-- A row of places stands there. -/
def IRow (w : World) (A : Option Addr) (zs : List Nat) : Prop := zs ≠ [] → ∃ g, A = some ⟨g, 0, none⟩ ∧ ∀ (j x : Nat), zs[j]? = some x → w.cell? ⟨g, j, none⟩ = some (.int .i64 (x : Int))
theorem info_int : (Tryz.prog.info? 3).map (fun i => (i.zero, i.size, i.bytes)) = some (some (.int .i64 0), 1, 8) := by kernel_rfl
theorem info_int2 : ∃ i0, Tryz.prog.info? 3 = some i0 ∧ i0.zero = some (.int .i64 0) ∧ i0.size = 1 ∧ i0.bytes = 8 := by
  have h := info_int
  cases hq : Tryz.prog.info? 3 with
  | none => rw [hq] at h; cases h
  | some i =>
    rw [hq] at h
    simp only [Option.map_some, Option.some.injEq, Prod.mk.injEq] at h
    exact ⟨i, rfl, h.1, h.2.1, h.2.2⟩
theorem build_int (b : Int) (W : World) : (Instr.buildSlice 27 1 #[(0, .int .i64 b)]).run Tryz.prog W = .ok (.slice (some ⟨W.heap.size, 0, none⟩) 1 1) (W.alloc (.cells #[.int .i64 b] 3)) := by
  obtain ⟨i0, hi, hz0, hz1, hz2⟩ := info_int2
  refine run_buildSlice W 27 3 1 #[(0, .int .i64 b)] #[.int .i64 b] i0 _ Tryz.underlying27 hi hz0 (by rw [hz1]; decide) (by rw [hz1]; decide) ?_
  rw [hz1]
  have h := Great.fill_whole (s := 1) (by decide) [.int .i64 b] ((Array.range (1 * 1)).map ((Value.int .i64 0).cells[· % (Value.int .i64 0).cells.size]!)) (by intro v hv; rw [List.mem_singleton.1 hv]; rfl) (by rw [Array.size_map, Array.size_range]; rfl)
  exact h
section
variable {ops : Array Oper} {rest : List Oper} {o : Oper} {a : Act} {Q : Exit → Act → World → Prop}
/-- 'v = append(v, i)', one number. -/
theorem wpList_pushI {w0 : World} (hgd : o.guard = none) (s x : Operand) (ho : o.op = .call { callee := .builtin .append, args := #[s, x], argTypes := #[27, 27] })
    (base : Nat) (v : Value) (zs : List Nat) (i : Nat) (hs : a.eval s = v) (hx : a.eval x = .slice (some ⟨w0.heap.size, 0, none⟩) 1 1) (hown : w0.ownsRow base 3 1 v zs.length (iV zs)) (hbase : base ≤ w0.heap.size) (hlen : zs.length < 1000000)
    (h : ∀ v' w', w'.ownsRow base 3 1 v' (zs ++ [i]).length (iV (zs ++ [i])) → w0.grownBy w' v.ownBlock → wpList Tryz.prog ops Q rest (a.put o.dst v') w') : wpList Tryz.prog ops Q (o :: rest) a (w0.alloc (.cells #[.int .i64 (i : Int)] 3)) := by
  obtain ⟨i0, hi, hz, hsz, hby⟩ := info_int2
  have hown' : (w0.alloc (.cells #[.int .i64 (i : Int)] 3)).ownsRow base 3 1 v zs.length (iV zs) := World.ownsRow.alloc hown _
  refine wpList_append_own _ hgd s x 27 ho base 3 i0 (.int .i64 0) 1 8 Tryz.underlying27 hi hz hsz hby rfl (by decide) v zs.length (iV zs) hs hown' ⟨w0.heap.size, 0, none⟩ 1 1 [.int .i64 (i : Int)] hx rfl ?_ ?_ (by unfold maxLen; omega) (by omega) (by simp; omega) ?_
  · intro j u hu
    rw [add_flat, cell_of_row _ w0.heap.size (0 + j) _ 3 (0, 0) (heap_alloc_new w0 _), Nat.zero_add, List.getElem?_toArray, hu]
  · intro u hu
    rw [List.mem_singleton.1 hu]
    rfl
  · intro v' w' h2 h3 _
    refine h v' w' ?_ ⟨h3.os, h3.tape, h3.output, Nat.le_trans (by simp) h3.size, fun k hk hne => (h3.block k (by simp; omega) hne).trans (Below.heap_alloc w0 _ k hk)⟩
    have e : iV (zs ++ [i]) = iV zs ++ [.int .i64 (i : Int)] := by unfold iV; rw [List.map_append]; rfl
    rw [e, List.length_append]
    exact h2
end
section
variable {w : World} {B : Nat} {v : Value} {zs : List Nat}
open Go.Sort in
theorem sort_any (h : w.ownsRow B 3 1 v zs.length (iV zs)) (hl : zs.length < 1000000) : Calls Tryz.prog 58 #[v] w (fun e w' => e = .returned (.tuple #[]) ∧ w.grownBy w' v.ownBlock ∧ ∃ A cc zs', v = .slice A zs'.length cc ∧ zs'.Perm zs ∧ IRow w' A zs' ∧ ∀ a, A = some a → v.ownBlock = some a.block) := by
  have h0 := h
  rcases h.2 with ⟨rfl, hn⟩ | ⟨g, cap, cur, rfl, hg, hb, -⟩
  · refine (Tryz.slices_Sort_int_none none 0 w).mono fun e w' hh => ?_
    obtain ⟨rfl, rfl⟩ := hh
    have hz : zs = [] := List.eq_nil_of_length_eq_zero hn
    subst hz
    exact ⟨rfl, ⟨rfl, rfl, rfl, Nat.le_refl _, fun _ _ _ => rfl⟩, none, 0, [], rfl, List.Perm.refl _, fun hne => absurd rfl hne, fun a ha => by cases ha⟩
  · have hlt : g < w.heap.size := (Array.getElem?_eq_some_iff.1 hb).1
    have hH : Holds (Value.int .i64) w g 0 (zs.map Int.ofNat).toArray := fun j hj => by
      have hj' : j < zs.length := by simpa using hj
      have hz : zs[j]? = some zs[j] := List.getElem?_eq_getElem hj'
      obtain ⟨k1, k2⟩ := own_cell h0 (iV_at hz)
      rw [Nat.zero_add]
      refine ⟨?_, k2⟩
      rw [k1, getElem!_pos _ j hj]
      simp
    have hlen : (zs.map Int.ofNat).length = zs.length := by rw [List.length_map]
    have k := Tryz.slices_Sort_int g 0 cap (zs.map Int.ofNat) w hH hlt (by rw [hlen]; omega)
    rw [hlen] at k
    refine k.mono fun e w' hh => ?_
    obtain ⟨rfl, n, os, rfl⟩ := hh
    have hsort : (zs.map Int.ofNat).mergeSort (fun x y => decide (x ≤ y)) = (zs.mergeSort (fun x y => decide (x ≤ y))).map Int.ofNat := by
      rw [List.map_mergeSort (s := fun x y => decide (x ≤ y))]
      intro a _ b _
      simp
    have hpl : (zs.mergeSort (fun x y => decide (x ≤ y))).length = zs.length := (List.mergeSort_perm _ _).length_eq
    rw [hsort]
    refine ⟨rfl, ⟨rfl, rfl, rfl, by simp, fun j hj hne => ?_⟩, some ⟨g, 0, none⟩, cap, zs.mergeSort (fun x y => decide (x ≤ y)), by rw [hpl], List.mergeSort_perm _ _, fun _ => ⟨g, rfl, fun j x hx => ?_⟩, fun a ha => by injection ha with ha; rw [← ha]; rfl⟩
    · have hjg : g ≠ j := fun e => hne (by rw [e]; rfl)
      rw [heap_grow_old _ _ (by simpa using hj)]
      show (w.heap.modify g _)[j]? = w.heap[j]?
      rw [Array.getElem?_modify, if_neg hjg]
    · rw [cell?_grow _ _ _ (by simpa using hlt)]
      have hj : j < (zs.mergeSort (fun x y => decide (x ≤ y))).length := (List.getElem?_eq_some_iff.1 hx).1
      have hc := cell?_putRow (Value.int .i64) (Go.Sort.ahead w n) g 0 (zs.map Int.ofNat).toArray ((zs.mergeSort (fun x y => decide (x ≤ y))).map Int.ofNat).toArray hH (by simp [hpl]) j (by simpa using hj)
      rw [Nat.zero_add] at hc
      rw [hc, getElem!_pos _ j (by simpa using hj)]
      have hx2 := (List.getElem?_eq_some_iff.1 hx).2
      simp [hx2]
end
section
variable {w0 w : World} {Z : Pk} {D : Dk} {L : Lg} {P : Pl}
def ChP (P : Pl) (w : World) (e : Ending) (w' : World) : Prop := ∃ A cc zs, e = .returned (.slice A zs.length cc) ∧ ChL P zs ∧ zs.length ≤ P.n ∧ Ext w w' ∧ IRow w' A zs ∧ ∀ a, A = some a → w.heap.size ≤ a.block ∧ a.block < w'.heap.size
/-- How far it is. -/
structure ChR (P : Pl) (left : Lit → Bool) (cnt C : Nat) (zs : List Nat) : Prop where
  nodup : zs.Nodup
  mem : ∀ i, i ∈ zs ↔ (∃ f, P.H i = some f ∧ f.ch = true) ∧ left (ik i) = false
  cnt : zs.length + cnt ≤ C
set_option maxRecDepth 20000 in
set_option maxHeartbeats 3200000 in
theorem changed_any {nd : Nat} (h : PlAt w0 w Z D L P) (ok : P.Ok nd) : Calls Tryz.prog 30 #[.pointer (some ⟨Z.q, 0, none⟩)] w (ChP P w) := by
  have H := hide h
  have OK := hide ok
  obtain ⟨Dt, hown, hreads⟩ := h.held
  have HRD := hide hreads
  have c5 := h.blk.cell (i := 5) rfl
  obtain ⟨r, HR⟩ : ∃ r, Hid (w.heap.size = r) := ⟨_, hide rfl⟩
  obtain ⟨hb, HHB⟩ : ∃ hb, Hid (Z.hb = hb) := ⟨_, hide rfl⟩
  have HHR : Hid (hb < r) := hide (by rw [← HHB.out, ← HR.out]; exact h.held.lt)
  obtain ⟨C, HC⟩ : ∃ C, Hid (Maps.size Dt = C) := ⟨_, hide rfl⟩
  have HC5 : Hid (C < 100000) := hide (by rw [← HC.out, hreads.size]; have := ok.cnt; have := ok.frames; omega)
  clear h ok hreads
  rw [HHB.out] at hown c5
  go_enter Tryz.func30, Tryz.ntmps30
  go_wp2_with (at_range; refine wpList_range_own _ rfl _ 71 rfl 3 81 intK Tryz.underlying71 ptrR hb P.n Dt rfl hown ?_; intro w1 hrg1 hg1 hs1; have HRG1 := hide hrg1; have HX1 := hide (Ext.of_grown hg1); have HS1 := hide hs1; clear hrg1 hg1 hs1)
  go_frame
  rw [HR.out] at HRG1 HS1 ⊢
  clear c5 hown
  go_loopw [3] (fun v wr => ∃ (zs : List Nat) (left : Lit → Bool) (cnt : Nat), Hid (wr.ownsRow (r + 1) 3 1 v zs.length (iV zs)) ∧ Hid (wr.ranges Tryz.prog 3 ptrR hb r P.n Dt left cnt) ∧ Hid (Ext w wr) ∧ Hid (ChR P left cnt C zs)) (fun _ wr => wr.rangeLeft hb r)
  case atStart =>
    refine ⟨[], _, _, hide (World.ownsRow_nil _ _ _ _), HRG1, HX1, hide ⟨List.nodup_nil, fun i => ⟨fun h => absurd h List.not_mem_nil, fun ⟨⟨f, hf, _⟩, hl⟩ => ?_⟩, by rw [HC.out]; exact Nat.le_of_eq (Nat.zero_add _)⟩⟩
    have h1 := HRD.out.has i
    rw [hl] at h1
    have h2 : (heldM Z P i).isSome = true := by unfold heldM; rw [hf]; rfl
    rw [h2] at h1
    cases h1
  case round =>
    obtain ⟨zs, left, cnt, HO, HRG, HX, HI⟩ := hrel
    have HSZ : Hid (r + 1 ≤ wr.heap.size) := hide HRG.out.lt
    have HZL : Hid (zs.length < 1000000) := hide (by have := HI.out.cnt; have := HC5.out; omega)
    have KSO := hide (sort_any HO.out HZL.out)
    go_wp2_with (first
      | (at_next; refine wpList_next_map _ rfl (.tmp 10) rfl ptrR hb r P.n Dt (heldM Z P) P.n HRD.out (fun i => .pointer (some ⟨Z.fb i, 0, none⟩)) (ptr_val Z P) left cnt rfl HRG.out ?_ ?_)
      | go_in)
    · intro _ hl0
      have HL0 := hide hl0
      clear hl0
      go_wp2_with (go_at_call 58; (with_reducible refine KSO.out.mono ?_); rintro e w2 ⟨rfl, hg2, A, cc, zs', hv2, hpm, hir, hA⟩; have HG2 := hide hg2; have HV2 := hide hv2; have HPM := hide hpm; have HIR := hide hir; have HA2 := hide hA; clear hg2 hv2 hpm hir hA)
      go_ret
      have hlt : ∀ k, Value.ownBlock _ = some k → _ := HO.out.lt
      refine ⟨A, cc, zs', by rw [HV2.out]; rfl, ⟨HPM.out.nodup_iff.2 HI.out.nodup, fun i => ?_⟩, by rw [HPM.out.length_eq]; have := HI.out.cnt; have := HC.out; have := HRD.out.size; omega, ?_, HIR.out, fun a ha => ?_⟩
      · rw [HPM.out.mem_iff, HI.out.mem]
        exact ⟨fun h => h.1, fun h => ⟨h, HL0.out _⟩⟩
      · refine ⟨HG2.out.os.trans HX.out.os, HG2.out.tape.trans HX.out.tape, HG2.out.output.trans HX.out.output, Nat.le_trans HX.out.size HG2.out.size, fun k hk => (HG2.out.block k (Nat.lt_of_lt_of_le hk HX.out.size) fun e => ?_).trans (Below.block HX.out k hk)⟩
        have := (hlt k e.symm).1
        have := HR.out
        omega
      · have h1 := hlt _ (HA2.out a ha)
        have := HR.out
        exact ⟨by omega, Nat.lt_of_lt_of_le h1.2 HG2.out.size⟩
    · intro i w2 cnt2 hsm hi5 hlk hrg2 hlt hgr hsz hen
      obtain ⟨f, hf⟩ : ∃ f, P.H i = some f := by
        unfold heldM at hsm
        cases hq : P.H i with
        | none => rw [hq] at hsm; cases hsm
        | some f => exact ⟨f, rfl⟩
      have HX2 : Hid (Ext w w2) := hide (HX.out.grown hgr (Nat.le_of_eq HR.out))
      have HRG2 := hide hrg2
      have HLT := hide hlt
      have HLK := hide hlk
      have HSZ2 : Hid (r + 1 ≤ w2.heap.size) := hide hrg2.lt
      have HO2 : Hid (w2.ownsRow (r + 1) 3 1 _ zs.length (iV zs)) := hide (HO.out.kept hgr (by
        refine .inr fun e => ?_
        have h1 := (HO.out.lt _ e).1
        omega))
      have H2 := hide (H.out.ext_ HX2.out)
      have f5 := (OK.out.page i f hf).2.by_
      have HF := hide hf
      obtain ⟨-, -, g6, -⟩ := fr_get f5
      have k6 := (H2.out.fr i f hf).cell g6
      clear hsm hi5 hlk hrg2 hlt hgr hsz f5 g6 hf
      have HS : Hid (∀ kl, (left kl && !kl.sameKey (ik i)) = false ↔ left kl = false ∨ kl = ik i) := hide (fun kl => by
        cases hl : left kl with
        | false => simp
        | true =>
          simp only [Bool.true_and, Bool.not_eq_false']
          constructor
          · intro h; exact .inr (WideAt.sameKey_eq h)
          · intro h
            rcases h with h | h
            · cases h
            · subst h; exact sameKey_ik.2 rfl)
      have HNI : Hid (i ∉ zs) := hide (fun h => by
        have h1 := ((HI.out.mem i).1 h).2
        rw [HLK.out] at h1
        cases h1)
      obtain ⟨chv, HCH⟩ : ∃ chv, Hid (f.ch = chv) := ⟨_, hide rfl⟩
      rw [HCH.out] at k6
      cases chv with
      | true =>
        have KB := hide (build_int (i : Int))
        go_wp2_with (first
          | ((with_reducible show wpList _ _ _ (⟨some 22, _, _, _, _, _⟩ :: _) _ _); refine wpList_gives (gives_buildSlice rfl [(0, .int .i64 (i : Int))] rfl (KB.out _) ⟨rfl, rfl⟩) rfl ?_)
          | (at_builtin; refine wpList_pushI rfl (.tmp 20) (.tmp 22) rfl (r + 1) _ zs i rfl rfl HO2.out HSZ2.out HZL.out ?_; intro v3 w3 hown3 hgrow3; have HO3 := hide hown3; have HG3 := hide hgrow3; clear hown3 hgrow3))
        have hlt2 : ∀ k, Value.ownBlock _ = some k → _ := HO2.out.lt
        have hrg3 := HRG2.out.kept HG3.out (fun e => by have := (hlt2 _ e.symm).1; have := HHR.out; omega) (fun e => by have := (hlt2 _ e.symm).1; omega)
        refine ⟨⟨zs ++ [i], _, cnt2, HO3, hide hrg3, hide ?_, hide ⟨?_, fun j => ?_, ?_⟩⟩, ?_⟩
        · refine ⟨HG3.out.os.trans HX2.out.os, HG3.out.tape.trans HX2.out.tape, HG3.out.output.trans HX2.out.output, Nat.le_trans HX2.out.size HG3.out.size, fun k hk => (HG3.out.block k (Nat.lt_of_lt_of_le hk HX2.out.size) fun e => ?_).trans (Below.block HX2.out k hk)⟩
          have := (hlt2 k e.symm).1
          have := HR.out
          omega
        · rw [List.nodup_append]
          refine ⟨HI.out.nodup, by simp, fun a ha b hb => ?_⟩
          rw [List.mem_singleton.1 hb]
          exact fun e => HNI.out (e ▸ ha)
        · rw [List.mem_append, List.mem_singleton, HI.out.mem, HS.out]
          constructor
          · rintro (h | rfl)
            · exact ⟨h.1, .inl h.2⟩
            · exact ⟨⟨f, HF.out, HCH.out⟩, .inr rfl⟩
          · rintro ⟨h1, h2 | h2⟩
            · exact .inl ⟨h1, h2⟩
            · exact .inr (ik_inj h2)
        · rw [List.length_append]
          have := HI.out.cnt
          have := HLT.out
          show zs.length + 1 + cnt2 ≤ C
          omega
        · rw [hrg3.left_eq, HRG.out.left_eq]; exact HLT.out
      | false =>
        go_wp2
        refine ⟨⟨zs, _, cnt2, HO2, HRG2, HX2, hide ⟨HI.out.nodup, fun j => ?_, ?_⟩⟩, ?_⟩
        · rw [HI.out.mem, HS.out]
          constructor
          · rintro ⟨h1, h2⟩; exact ⟨h1, .inl h2⟩
          · rintro ⟨⟨g, hg, hc⟩, h2 | h2⟩
            · exact ⟨⟨g, hg, hc⟩, h2⟩
            · obtain rfl := ik_inj h2
              rw [HF.out] at hg
              injection hg with hg
              rw [← hg, HCH.out] at hc
              cases hc
        · have := HI.out.cnt
          have := HLT.out
          omega
        · rw [HRG2.out.left_eq, HRG.out.left_eq]; exact HLT.out
end
end Go.Proofs.YtnkcneccolbbdaaGreatDoor
namespace Go.Proofs.YtnkcneccolbbdaaGreatDoor
open Go.RowKit

/-- The pages are stored, one after another. -/
def stAll : List Nat → St → Int × St
  | [], S => (0, S)
  | i :: zs, S => match S.P.H i with
    | some f => if (storeR S i f).1 ≠ 0 then storeR S i f else stAll zs (storeR S i f).2
    | none => (0, S)
def noCh (zs : List Nat) (P : Pl) : Pl := { P with H := fun i => (P.H i).map fun f => if i ∈ zs then { f with ch := false } else f }
def pflR (zs : List Nat) (S : St) : Int × St :=
  if (stAll zs S).1 ≠ 0 then stAll zs S else
  if (settleP (stAll zs S).2.L (stAll zs S).2.P).m = 0 then (0, { (stAll zs S).2 with P := settleP (stAll zs S).2.L (stAll zs S).2.P }) else
  if sE (stAll zs S).2.D ≠ 0 then (sE (stAll zs S).2.D, { (stAll zs S).2 with D := sD (stAll zs S).2.D, P := settleP (stAll zs S).2.L (stAll zs S).2.P }) else
  (0, { (stAll zs S).2 with D := sD (stAll zs S).2.D, P := noCh zs { settleP (stAll zs S).2.L (stAll zs S).2.P with W := fun _ => none, m := 0 } })
theorem stAll_cons {S : St} {i : Nat} {zs : List Nat} {f : Fm} (hf : S.P.H i = some f) : stAll (i :: zs) S = if (storeR S i f).1 ≠ 0 then storeR S i f else stAll zs (storeR S i f).2 := by
  show (match S.P.H i with | some f => _ | none => _) = _
  rw [hf]
theorem noCh_nil (P : Pl) : noCh [] P = P := by
  unfold noCh
  have e : (fun i => (P.H i).map fun f => if i ∈ ([] : List Nat) then { f with ch := false } else f) = P.H := by
    funext i
    cases P.H i with
    | none => rfl
    | some f => simp
  rw [e]
theorem noCh_snoc (P : Pl) (zs : List Nat) (x : Nat) {f : Fm} (hf : (noCh zs P).H x = some f) : noCh (zs ++ [x]) P = { noCh zs P with H := upM (noCh zs P).H x (some { f with ch := false }) } := by
  have e : (noCh (zs ++ [x]) P).H = upM (noCh zs P).H x (some { f with ch := false }) := by
    funext i
    have hf : (P.H x).map (fun f => if x ∈ zs then { f with ch := false } else f) = some f := hf
    show (P.H i).map (fun f => if i ∈ zs ++ [x] then { f with ch := false } else f) = _
    by_cases e : i = x
    · subst e
      rw [upM_same]
      cases hH : P.H i with
      | none => rw [hH] at hf; cases hf
      | some g =>
        rw [hH] at hf
        have hf := Option.some.inj hf
        have h2 : f = if i ∈ zs then { g with ch := false } else g := hf.symm
        show some (if i ∈ zs ++ [i] then { g with ch := false } else g) = _
        rw [if_pos (by simp), h2]
        split <;> rfl
    · rw [upM_other _ _ e]
      show _ = (P.H i).map (fun f => if i ∈ zs then { f with ch := false } else f)
      simp [e]
  rw [← e]
  rfl
section
variable {w w' : World} {A : Option Addr} {zs : List Nat}
theorem IRow.keep (h : IRow w A zs) (hk : ∀ a, A = some a → w'.heap[a.block]? = w.heap[a.block]?) : IRow w' A zs := fun hn => by
  obtain ⟨g, rfl, hc⟩ := h hn
  exact ⟨g, rfl, fun j x hx => (World.cell?_of_block (a := ⟨g, j, none⟩) (hk ⟨g, 0, none⟩ rfl)).trans (hc j x hx)⟩
end
section
variable {w0 w : World} {Z : Pk} {D : Dk} {L : Lg} {P : Pl}
/-- A row that is new to the pool stays through its calls. -/
theorem IRow.stay {w w1 w2 : World} {Z Z1 : Pk} {P P1 : Pl} {A : Option Addr} {zs : List Nat} (h : IRow w1 A zs) (hf : Pfr Z1 P1 w1 w2) (hA : ∀ a, A = some a → a.block < w.heap.size ∧ ¬ Z.has P a.block) (hl : Z1.Later P1 Z P w) (hs : w.heap.size ≤ w1.heap.size) : IRow w2 A zs := h.keep fun a ha => hf.other a.block (by have := (hA a ha).1; omega) fun hh => by
  rcases hl.has _ hh with h1 | h1
  · exact (hA a ha).2 h1
  · have := (hA a ha).1; omega
/-- The state of the first loop. -/
structure FlR (S0 : St) (zs : List Nat) (k : Nat) (c : Nat) (S : St) : Prop where
  le : k ≤ zs.length
  all : stAll zs S0 = stAll (zs.drop k) S
  H : S.P.H = S0.P.H
  hd : S.L.hd = S0.L.hd
  fit : S.Fit (c + k * (S0.L.hd.cn + 3))
def FlP (w0 w : World) (Z : Pk) (S0 : St) (e : Ending) (w' : World) : Prop := ∃ zs, ChL S0.P zs ∧ zs.length ≤ S0.P.n ∧ PPost w0 w Z S0.P (.int .i64 (pflR zs S0).1) (pflR zs S0).2.D (pflR zs S0).2.L (pflR zs S0).2.P e w'
set_option maxRecDepth 20000 in
set_option maxHeartbeats 6400000 in
theorem pflush_any {c : Nat} (h : PlAt w0 w Z D L P) (ft : St.Fit ⟨D, L, P⟩ c) (hc : c + P.n * (L.hd.cn + 3) ≤ 300000) (hT : Tab w0) (hoff : D.off = false) : Calls Tryz.prog 11 #[.pointer (some ⟨Z.q, 0, none⟩)] w (FlP w0 w Z ⟨D, L, P⟩) := by
  have H := hide h
  have HT := hide hT
  have HC := hide hc
  have c0 := h.blk.cell (i := 0) rfl
  have KON : Hid (Calls Tryz.prog 29 #[.pointer (some ⟨Z.X.g, 0, none⟩)] w (Same w (.bool true))) := hide (by have k := on_any h.log.disk; rw [hoff] at k; exact k)
  have KCH := hide (changed_any h ft.pool)
  obtain ⟨S0, HS0⟩ : ∃ S0, Hid ((⟨D, L, P⟩ : St) = S0) := ⟨_, hide rfl⟩
  have FT : Hid (S0.Fit c) := hide (by rw [← HS0.out]; exact ft)
  have HPP : Hid (S0.P = P ∧ S0.L = L ∧ S0.D = D) := hide (by rw [← HS0.out]; exact ⟨rfl, rfl, rfl⟩)
  obtain ⟨g, HG⟩ : ∃ g, Hid (Z.X.g = g) := ⟨_, hide rfl⟩
  obtain ⟨q, HQ⟩ : ∃ q, Hid (Z.q = q) := ⟨_, hide rfl⟩
  rw [HG.out] at c0 KON
  rw [HQ.out] at c0 KCH
  rw [HS0.out]
  have HQ2 := hide (show Z.q = q from HQ.out)
  rw [HQ2.out]
  clear h ft hc hT hoff
  go_enter Tryz.func11, Tryz.ntmps11
  go_upto_region 7 with (first
    | (go_at_call 29; (with_reducible refine KON.out.mono ?_); rintro e wz ⟨rfl, hwz⟩; subst hwz)
    | (go_at_call 30; (with_reducible refine KCH.out.mono ?_); rintro e w2 ⟨A, cc, zs, rfl, hch, hzn, hx2, hir, hA⟩; have HCH := hide hch; have HZN := hide hzn; have HX2 := hide hx2; have HIR := hide hir; have HA := hide hA; clear hch hzn hx2 hir hA))
  have HAR : Hid (∀ a, A = some a → a.block < w2.heap.size ∧ ¬ Z.has P a.block) := hide (fun a ha => ⟨(HA.out a ha).2, fun hh => by have h1 := (HA.out a ha).1; have h2 := H.out.has_lt hh; omega⟩)
  have HP2 : Hid (PlAt w0 w2 Z S0.D S0.L S0.P) := hide (by rw [← HS0.out]; exact H.out.ext_ HX2.out)
  have HCB : Hid (c + zs.length * (S0.L.hd.cn + 3) ≤ 300000) := hide (by
    rw [HPP.out.2.1]
    have h1 := Nat.mul_le_mul_right (L.hd.cn + 3) HZN.out
    have h2 := HC.out
    omega)
  clear c0 KON KCH
  go_loopw [24] (fun x wr => ∃ (k : Nat) (S : St) (Z1 : Pk), x = .int .i64 (k : Int) ∧ Hid (PlAt w0 wr Z1 S.D S.L S.P) ∧ Hid (Pfr Z P w2 wr) ∧ Hid (Z1.Later P Z P w2) ∧ Hid (IRow wr A zs) ∧ Hid (FlR S0 zs k c S)) (fun x _ => zs.length - (intOf x).toNat)
  case atStart => exact ⟨0, S0, Z, rfl, HP2, hide Pfr.refl, hide (Pk.Later.refl _ _ _), HIR, hide ⟨Nat.zero_le _, by rw [List.drop_zero], rfl, rfl, by rw [Nat.zero_mul]; exact FT.out⟩⟩
  case round =>
    obtain ⟨k, S, Z1, rfl, HPK, HFK, HLK, HIK, HRK⟩ := hrel
    have HQ1 : Hid (Z1.q = q) := hide (HLK.out.q.trans HQ.out)
    by_cases hk : k < zs.length
    · have hki : (k : Int) < (zs.length : Int) := by omega
      have hzk : zs[k]? = some zs[k] := List.getElem?_eq_getElem hk
      obtain ⟨x, HXK⟩ : ∃ x, Hid (zs[k] = x) := ⟨_, hide rfl⟩
      rw [HXK.out] at hzk
      have HZK := hide hzk
      obtain ⟨gA, rfl, hcell⟩ := HIK.out (fun e => by rw [e] at hk; exact absurd hk (Nat.not_lt_zero _))
      have ck := hcell k x hzk
      obtain ⟨f, hf⟩ : ∃ f, S.P.H x = some f := by
        obtain ⟨f, hf, -⟩ := (HCH.out.mem x).1 (List.mem_of_getElem? hzk)
        exact ⟨f, by rw [HRK.out.H, HPP.out.1]; exact hf⟩
      have HF := hide hf
      have hdrop : zs.drop k = x :: zs.drop (k + 1) := by rw [← HXK.out]; exact List.drop_eq_getElem_cons hk
      have HDR := hide hdrop
      have HKL := hide hk
      have HCK : Hid (c + k * (S0.L.hd.cn + 3) ≤ 300000) := hide (by
        have h1 := Nat.mul_le_mul_right (S0.L.hd.cn + 3) (Nat.le_of_lt hk)
        have h2 := HCB.out
        omega)
      have KST := hide (store_any HPK.out (by cases S; exact HRK.out.fit) (by have := HCK.out; omega) hf HT.out)
      rw [HQ1.out] at KST
      have hkb : k < 300001 := by
        have h1 : zs.length * 1 ≤ zs.length * (S0.L.hd.cn + 3) := Nat.mul_le_mul_left _ (by omega)
        have h2 := HCB.out
        omega
      have hkw : IntKind.i64.wrap ((k : Int) + 1) = ((k + 1 : Nat) : Int) := by rw [IntKind.wrap_i64]; omega
      obtain ⟨r1, HR1⟩ : ∃ r1, Hid ((storeR S x f).1 = r1) := ⟨_, hide rfl⟩
      obtain ⟨S1, HS1⟩ : ∃ S1, Hid ((storeR S x f).2 = S1) := ⟨_, hide rfl⟩
      have KS2 : Hid (Calls Tryz.prog 31 #[.pointer (some ⟨q, 0, none⟩), .int .i64 (x : Int)] wr (StPost w0 wr Z1 S.P (r1, S1))) := hide (by
        have k1 := KST.out
        rw [show storeR (⟨S.D, S.L, S.P⟩ : St) x f = (r1, S1) from Prod.ext HR1.out HS1.out] at k1
        exact k1)
      obtain ⟨k1, HK1⟩ : ∃ k1, Hid (k + 1 = k1) := ⟨_, hide rfl⟩
      rw [HK1.out] at hkw
      clear KST hzk hcell hf hdrop HXK hk hkb
      by_cases hr1 : r1 = 0
      · subst hr1
        go_wp2_with (go_at_call 31; (with_reducible refine KS2.out.mono ?_); rintro e w3 ⟨Z3, rfl, hp3, hf3, hl3, hb3⟩; have HP3 := hide hp3; have HF3 := hide hf3; have HL3 := hide hl3; clear hp3 hf3 hl3 hb3)
        have hz := storeR_P S x f
        rw [HS1.out] at hz
        have hZP : Z1.Later S.P Z P w2 := HLK.out.fewer fun j g hj => ⟨g, by rw [← HPP.out.1, ← HRK.out.H]; exact hj⟩
        refine ⟨⟨k1, S1, Z3, rfl, HP3, hide ?_, hide ?_, hide (HIK.out.stay HF3.out (fun a ha => HAR.out a ha) hZP HFK.out.size), hide ⟨?_, ?_, ?_, ?_, ?_⟩⟩, ?_⟩
        · exact HFK.out.trans HF3.out hZP
        · exact (hZP.trans HL3.out HFK.out.size).fewer fun j g hj => ⟨g, by rw [HRK.out.H, HPP.out.1]; exact hj⟩
        · have := HKL.out; have := HK1.out; omega
        · rw [HRK.out.all, HDR.out, stAll_cons HF.out, HR1.out, if_neg (by decide), HS1.out, HK1.out]
        · rw [hz.1]; exact HRK.out.H
        · rw [hz.2.2.2.2.2.2]; exact HRK.out.hd
        · have h1 := (storeR_fit HRK.out.fit (by have := HCK.out; omega) HF.out).1
          rw [HS1.out, HRK.out.hd] at h1
          refine h1.mono ?_
          rw [← HK1.out, Nat.add_mul]
          omega
        · show zs.length - ((k1 : Int)).toNat < zs.length - ((k : Int)).toNat
          have := HKL.out; have := HK1.out; omega
      · have hrr : (r1 != 0) = true := by simpa using hr1
        have HRN := hide hr1
        clear hr1
        go_wp2_with (go_at_call 31; (with_reducible refine KS2.out.mono ?_); rintro e w3 ⟨Z3, rfl, hp3, hf3, hl3, hb3⟩; have HP3 := hide hp3; have HF3 := hide hf3; have HL3 := hide hl3; clear hp3 hf3 hl3 hb3)
        go_ret
        have hz := storeR_P S x f
        rw [HS1.out] at hz
        have hZP : Z1.Later S.P Z P w2 := HLK.out.fewer fun j g hj => ⟨g, by rw [← HPP.out.1, ← HRK.out.H]; exact hj⟩
        have hall : stAll zs S0 = (r1, S1) := by
          rw [HRK.out.all, HDR.out, stAll_cons HF.out, HR1.out, if_pos HRN.out, ← HR1.out, ← HS1.out]
        have hres : pflR zs S0 = (r1, S1) := by unfold pflR; rw [hall, if_pos HRN.out]
        refine ⟨zs, by rw [HPP.out.1]; exact HCH.out, by rw [HPP.out.1]; exact HZN.out, ?_⟩
        rw [hres, HPP.out.1]
        have hpf := (Pfr.ext (Z := Z) (P := P) HX2.out).trans (HFK.out.trans HF3.out hZP) (Pk.Later.refl _ _ _)
        have hln := ((hZP.trans HL3.out HFK.out.size).fewer (P' := S1.P) fun j g hj => ⟨g, by rw [← hz.1]; exact hj⟩).up HX2.out.size
        exact ⟨Z3, rfl, HP3.out, hpf, hln⟩
    · obtain rfl : k = zs.length := by have := HRK.out.le; omega
      have hki : ¬ (zs.length : Int) < (zs.length : Int) := by omega
      have KSE := hide (psettle_any HPK.out)
      rw [HQ1.out] at KSE
      clear hk
      go_upto_region 14 with (go_at_call 32; (with_reducible refine KSE.out.mono ?_); rintro e w3 ⟨rfl, hp3, hf3⟩; have HP3 := hide hp3; have HF3 := hide hf3; clear hp3 hf3)
      have hall : stAll zs S0 = (0, S) := by rw [HRK.out.all, List.drop_length]; rfl
      obtain ⟨P4, HP4⟩ : ∃ P4, Hid (settleP S.L S.P = P4) := ⟨_, hide rfl⟩
      rw [HP4.out] at HP3
      have HPH : Hid (P4.H = P.H) := hide (by rw [← HP4.out, (settleP_is S.L S.P).1, HRK.out.H, HPP.out.1])
      have HRES : Hid (pflR zs S0 = if P4.m = 0 then (0, { S with P := P4 }) else if sE S.D ≠ 0 then (sE S.D, { S with D := sD S.D, P := P4 }) else (0, { S with D := sD S.D, P := noCh zs { P4 with W := fun _ => none, m := 0 } })) := hide (by unfold pflR; rw [hall, if_neg (fun hh => hh rfl), HP4.out])
      have HZ4 : Hid (Z1.Later P4 Z P w2) := hide (HLK.out.fewer fun j g hj => ⟨g, by rw [← HPH.out]; exact hj⟩)
      have HF4 : Hid (Pfr Z P w2 w3) := hide (HFK.out.trans HF3.out (HLK.out.fewer fun j g hj => ⟨g, by rw [← HPP.out.1, ← HRK.out.H]; exact hj⟩))
      have HPN : Hid (ChL S0.P zs ∧ zs.length ≤ S0.P.n) := hide (by rw [HPP.out.1]; exact ⟨HCH.out, HZN.out⟩)
      have HIR3 : Hid (IRow w3 A zs) := hide (HIR.out.keep fun a ha => HF4.out.other a.block (HAR.out a ha).1 (HAR.out a ha).2)
      have k6 := HP3.out.blk.cell (i := 6) rfl
      have k0 := HP3.out.blk.cell (i := 0) rfl
      rw [HQ1.out] at k6 k0
      obtain ⟨g1, HG1⟩ : ∃ g1, Hid (Z1.X.g = g1) := ⟨_, hide rfl⟩
      obtain ⟨ob, HOB⟩ : ∃ ob, Hid (Z1.ob = ob) := ⟨_, hide rfl⟩
      rw [HG1.out] at k0
      obtain ⟨m, HM⟩ : ∃ m, Hid (P4.m = m) := ⟨_, hide rfl⟩
      have hlen : ∀ k, (Builtin.len_ #[72] 3 #[.map (some ob)]).run Tryz.prog (w3.drewN k) = .ok (.int .i64 (m : Int)) (w3.drewN k) := fun k => by
        have h1 := (HP3.out.ext_ ((Ext.refl _).drewN k)).way.len (t := 72) Tryz.underlying72 3
        rw [HM.out, HOB.out] at h1
        exact h1
      have hlen0 := hlen 0
      rw [show w3.drewN 0 = w3 from rfl] at hlen0
      rw [HOB.out] at k6
      rw [HM.out] at HRES
      clear hall hki KSE
      by_cases hm : m = 0
      · subst hm
        have HRES2 : Hid (pflR zs S0 = (0, { S with P := P4 })) := hide (by rw [HRES.out, if_pos rfl])
        go_wp2
        go_ret
        refine ⟨zs, HPN.out.1, HPN.out.2, ?_⟩
        rw [HRES2.out, HPP.out.1]
        exact PPost.pre HX2.out ⟨Z1, rfl, HP3.out, HF4.out, HZ4.out⟩
      · have hmi : ((m : Int) == 0) = false := by simp; omega
        have HB := hide HRK.out.fit.bd
        obtain ⟨e5, HE5⟩ : ∃ e5, Hid (sE S.D = e5) := ⟨_, hide rfl⟩
        obtain ⟨D5, HD5⟩ : ∃ D5, Hid (sD S.D = D5) := ⟨_, hide rfl⟩
        have KSY : Hid (∀ W, Ext w3 W → Calls Tryz.prog 33 #[.pointer (some ⟨g1, 0, none⟩)] W (LPost w0 W Z1.X (.int .i64 e5) D5 S.L)) := hide (fun W hW => by
          have k1 := gsync_any (HP3.out.ext_ hW).log HB.out
          rw [HG1.out, HE5.out, HD5.out] at k1
          exact k1)
        rw [HE5.out, HD5.out, if_neg hm] at HRES
        have HMN := hide hm
        clear hm
        by_cases he5 : e5 = 0
        · subst he5
          go_upto_region 19 with (go_at_call 33; (with_reducible refine (KSY.out _ (Ext.refl _)).mono ?_); rintro e w4 hp4; have HP4L := hide (HP3.out.of_logE hp4); obtain ⟨X4, rfl, -⟩ := hp4)
          obtain ⟨Z5, -, -, -, hpl5, hpf5, hpn5⟩ := HP4L.out
          have HP5 := hide hpl5
          have HF5 : Hid (Pfr Z P w2 w4) := hide (HF4.out.trans hpf5 HZ4.out)
          have HZ5 : Hid (Z5.Later P4 Z P w2) := hide (HZ4.out.trans hpn5 HF4.out.size)
          have HQ5 : Hid (Z5.q = q) := hide (HZ5.out.q.trans HQ.out)
          obtain ⟨w5, hrun, hmm, ht⟩ := hpl5.way.clear (t := 72) (e := 33) Tryz.underlying72 0
          obtain ⟨P5, HP5E⟩ : ∃ P5, Hid (({ P4 with W := fun _ => none, m := 0 } : Pl) = P5) := ⟨_, hide rfl⟩
          have HP6 : Hid (PlAt w0 w5 Z5 D5 S.L P5) := hide (by rw [← HP5E.out]; exact hpl5.wayIs (fun _ => none) 0 ht (by unfold wayM; exact hmm))
          have HPH5 : Hid (P5.H = P.H) := hide (by rw [← HP5E.out]; exact HPH.out)
          have HF6 : Hid (Pfr Z P w2 w5) := hide (HF5.out.trans (Pfr.onMap ht (.inr (.inr (.inr (.inl rfl))))) HZ5.out)
          have HZ6 : Hid (Z5.Later P5 Z P w2) := hide (HZ5.out.fewer fun j g hj => ⟨g, by rw [HPH.out, ← HPH5.out]; exact hj⟩)
          have HIR6 : Hid (IRow w5 A zs) := hide (HIR.out.keep fun a ha => HF6.out.other a.block (HAR.out a ha).1 (HAR.out a ha).2)
          have HOB5 : Hid (Z5.ob = ob) := hide (by rw [← HOB.out]; exact hpn5.ob)
          rw [HOB5.out] at hrun
          have HRUN := hide hrun
          have k6b := hpl5.blk.cell (i := 6) rfl
          rw [HQ5.out, HOB5.out] at k6b
          rw [HP5E.out, if_neg (fun hh => hh rfl)] at HRES
          clear k0 k6 hlen hlen0 hpl5 hpf5 hpn5 hrun hmm ht KSY
          go_upto_region 21 with ((with_reducible show wpList _ _ _ (⟨none, .call _, _, _, _, _⟩ :: _) _ _); refine wpList_gives (gives_bi1 (x := .tmp 54) rfl rfl HRUN.out ⟨rfl, rfl⟩) rfl ?_)
          clear k6b
          go_loopw [57] (fun x wr => ∃ (k : Nat), x = .int .i64 (k : Int) ∧ Hid (k ≤ zs.length) ∧ Hid (PlAt w0 wr Z5 D5 S.L (noCh (zs.take k) P5)) ∧ Hid (Pfr Z P w2 wr) ∧ Hid (IRow wr A zs)) (fun x _ => zs.length - (intOf x).toNat)
          case atStart => exact ⟨0, rfl, hide (Nat.zero_le _), hide (by rw [List.take_zero, noCh_nil]; exact HP6.out), HF6, HIR6⟩
          case round =>
            obtain ⟨k, rfl, HKL, HPK5, HFK5, HIK5⟩ := hrel
            by_cases hk : k < zs.length
            · have hki : (k : Int) < (zs.length : Int) := by omega
              have hzk : zs[k]? = some zs[k] := List.getElem?_eq_getElem hk
              obtain ⟨x, HXK⟩ : ∃ x, Hid (zs[k] = x) := ⟨_, hide rfl⟩
              rw [HXK.out] at hzk
              have HTK : Hid (zs.take (k + 1) = zs.take k ++ [x]) := hide (by rw [List.take_add_one, hzk]; rfl)
              obtain ⟨gA, rfl, hcell⟩ := HIK5.out (fun e => by rw [e] at hk; exact absurd hk (Nat.not_lt_zero _))
              have ck := hcell k x hzk
              obtain ⟨f0, hf0⟩ : ∃ f, P5.H x = some f := by
                obtain ⟨f, hf, -⟩ := (HCH.out.mem x).1 (List.mem_of_getElem? hzk)
                exact ⟨f, by rw [HPH5.out]; exact hf⟩
              have hb0 : f0.by_.length = 504 := (HRK.out.fit.pool.page x f0 (by rw [HRK.out.H, HPP.out.1, ← HPH5.out]; exact hf0)).2.by_
              have hx5 : x < 100000 := by
                have h1 := (HRK.out.fit.pool.page x f0 (by rw [HRK.out.H, HPP.out.1, ← HPH5.out]; exact hf0)).1
                have h2 := HRK.out.fit.pool.at_
                have h3 := HRK.out.fit.pool.max
                omega
              obtain ⟨f, hf, hfb⟩ : ∃ f, (noCh (zs.take k) P5).H x = some f ∧ f.by_.length = 504 := by
                refine ⟨if x ∈ zs.take k then { f0 with ch := false } else f0, ?_, ?_⟩
                · show (P5.H x).map _ = _
                  rw [hf0]; rfl
                · split
                  · exact hb0
                  · exact hb0
              have HF := hide hf
              have HFB := hide hfb
              have hlk := held_look HPK5.out hx5
              rw [hf] at hlk
              have hlk0 := hlk 0
              rw [show wr.drewN 0 = wr from rfl] at hlk0
              have hrf := HPK5.out.fr x f hf
              have z506 := hrf.frozen 506
              have k506 := hrf.cell (fr_get hfb).2.2.1
              have c5 := HPK5.out.blk.cell (i := 5) rfl
              rw [HQ5.out] at c5
              have c5 : wr.cell? ⟨q, 5, none⟩ = some (.map (some Z5.hb)) := c5
              obtain ⟨b, HBE⟩ : ∃ b, Hid (Z5.fb x = b) := ⟨_, hide rfl⟩
              rw [HBE.out] at hlk0 z506 k506
              have hlk0 : (Instr.lookup 71 (.map (some Z5.hb)) (.int .i64 (x : Int)) false).run Tryz.prog wr = .ok (.pointer (some ⟨b, 0, none⟩)) wr := hlk0
              have hkw : IntKind.i64.wrap ((k : Int) + 1) = ((k + 1 : Nat) : Int) := by
                have h1 : zs.length * 1 ≤ zs.length * (S0.L.hd.cn + 3) := Nat.mul_le_mul_left _ (by omega)
                have h2 := HCB.out
                rw [IntKind.wrap_i64]; omega
              have HKK := hide hk
              obtain ⟨k1, HK1⟩ : ∃ k1, Hid (k + 1 = k1) := ⟨_, hide rfl⟩
              rw [HK1.out] at hkw HTK
              clear hzk hcell hf0 hb0 hx5 hf hfb hlk hrf HXK hk
              go_wp2
              have hr := (HPK5.out.fr x f HF.out).set 506 (.bool false)
              rw [show (frC f).set 506 (.bool false) = frC { f with ch := false } from fr_set HFB.out 2 _, HBE.out] at hr
              have hP := HPK5.out.frame x (f := f) (f' := { f with ch := false }) HF.out (cell_rest wr ⟨b, 506, none⟩ (.bool false)) (fun j hj => Below.heap_setCell wr ⟨b, 506, none⟩ _ j (by rw [← HBE.out]; exact hj)) (by rw [HBE.out]; exact hr) _ (noCh_snoc P5 (zs.take k) x HF.out)
              have hfr : Pfr Z5 (noCh (zs.take k) P5) wr (wr.setCell ⟨b, 506, none⟩ (.bool false)) := Pfr.onCell (.inr (.inr (.inr (.inr ⟨x, f, HF.out, HBE.out.symm⟩))))
              have hff := HFK5.out.trans hfr (HZ6.out.fewer fun j g hj => by
                have hj : (P5.H j).map _ = some g := hj
                cases hq : P5.H j with
                | none => rw [hq] at hj; cases hj
                | some g' => exact ⟨g', rfl⟩)
              refine ⟨⟨k1, rfl, hide (by have := HKK.out; have := HK1.out; omega), hide (by rw [HTK.out]; exact hP), hide hff, hide (HIR.out.keep fun a ha => hff.other a.block (HAR.out a ha).1 (HAR.out a ha).2)⟩, ?_⟩
              show zs.length - ((k1 : Int)).toNat < zs.length - ((k : Int)).toNat
              have := HKK.out
              have := HK1.out
              omega
            · obtain rfl : k = zs.length := by have := HKL.out; omega
              have hki : ¬ (zs.length : Int) < (zs.length : Int) := by omega
              clear hk
              go_wp2
              go_ret
              have hP := HPK5.out
              rw [List.take_length] at hP
              refine ⟨zs, HPN.out.1, HPN.out.2, ?_⟩
              rw [HRES.out, HPP.out.1]
              exact PPost.pre HX2.out ⟨Z5, rfl, hP, HFK5.out, HZ6.out.fewer fun j g hj => by
                have hj : (P5.H j).map _ = some g := hj
                cases hq : P5.H j with
                | none => rw [hq] at hj; cases hj
                | some g' => exact ⟨g', rfl⟩⟩
        · have he5b : (e5 != 0) = true := by simpa using he5
          have HRES2 : Hid (pflR zs S0 = (e5, { S with D := D5, P := P4 })) := hide (by rw [HRES.out, if_pos he5])
          clear he5 hlen
          go_wp2_with (go_at_call 33; (with_reducible refine (KSY.out _ (Ext.refl _)).mono ?_); rintro e w4 hp4; have HP4L := hide (HP3.out.of_logE hp4); obtain ⟨X4, rfl, -⟩ := hp4)
          go_ret
          obtain ⟨Z5, -, -, -, hpl5, hpf5, hpn5⟩ := HP4L.out
          refine ⟨zs, HPN.out.1, HPN.out.2, ?_⟩
          rw [HRES2.out, HPP.out.1]
          exact PPost.pre HX2.out ⟨Z5, rfl, hpl5, HF4.out.trans hpf5 HZ4.out, HZ4.out.trans hpn5 HF4.out.size⟩
end
end Go.Proofs.YtnkcneccolbbdaaGreatDoor
namespace Go.Proofs.YtnkcneccolbbdaaGreatDoor
open Go.RowKit

/-- What is pending on the disk is told, since the log was durable last. -/
structure Way (S : St) : Prop where
  pen : S.D.pen = [] ∨ (S.P.m ≠ 0 ∧ ¬ S.P.sure < S.L.sure)
  cnt : ∀ i s, S.P.W i = some s → S.P.m ≠ 0
section
variable {S : St} {c i : Nat} {f : Fm}
theorem settleP_cnt {L : Lg} {P : Pl} (h : ∀ i s, P.W i = some s → P.m ≠ 0) : (∀ i s, (settleP L P).W i = some s → (settleP L P).m ≠ 0) ∧ ¬ (settleP L P).sure < L.sure := by
  unfold settleP
  split
  · exact ⟨fun i s hi => (by cases hi), Nat.lt_irrefl _⟩
  · rename_i hn
    exact ⟨h, hn⟩
theorem wayP_m {P : Pl} (h : ∀ i s, P.W i = some s → P.m ≠ 0) (i s : Nat) : (wayP P i s).m ≠ 0 := by
  unfold wayP
  split
  · rename_i hs
    obtain ⟨x, hx⟩ := Option.isSome_iff_exists.1 hs
    exact h i x hx
  · exact Nat.succ_ne_zero _
theorem storeR_way (g : Good S) (wy : Way S) (ft : S.Fit c) (hc : c ≤ 400000) (hf : S.P.H i = some f) (hch : f.ch = true) : Way (storeR S i f).2 := by
  obtain ⟨a1, -⟩ := aheadR_good g ft hf hch
  have h0 := (storeR_good g ft hc hf hch).1
  have hp : (storeR S i f).2.P = wayP (settleP (storeR S i f).2.L S.P) i f.since := by
    unfold storeR at h0 ⊢
    rw [a1, if_neg (fun h => h rfl)] at h0 ⊢
    by_cases h2 : (putR (aheadR S f).2 i f).1 ≠ 0
    · rw [if_pos h2] at h0; exact absurd h0 h2
    · rw [if_neg h2]; rfl
  have hs := settleP_cnt (L := (storeR S i f).2.L) wy.cnt
  refine ⟨.inr ⟨by rw [hp]; exact wayP_m hs.1 _ _, by rw [hp, (wayP_is _ _ _).2.2.2.2.2.2.2.2]; exact hs.2⟩, fun j s hj => by rw [hp]; exact wayP_m hs.1 _ _⟩
theorem storeR_Good (g : Good S) (ft : S.Fit c) (hc : c ≤ 400000) (hf : S.P.H i = some f) (hch : f.ch = true) : Good (storeR S i f).2 := by
  obtain ⟨s1, s2, s3, s4, s5, s6, s7, s8⟩ := storeR_good g ft hc hf hch
  obtain ⟨e1, e2, e3, e4, e5, e6, e7⟩ := storeR_P S i f
  have hfo := (ft.pool.page i f hf).2
  obtain ⟨fb1, fb2⟩ := frameB_sec hfo.by_ hfo.last
  refine ⟨s2, by rw [s7, e7, e3]; exact g.apart, fun j g' hj hc' => ?_, fun j g' hj => ?_, fun j hj => ?_, by rw [s3]; exact s5, Nat.lt_of_lt_of_le g.pos s4⟩
  · rw [e1] at hj
    have e : j ≠ i := fun e => by
      subst e
      rw [hf] at hj
      injection hj with hj
      rw [← hj, hch] at hc'
      cases hc'
    rw [e3, s8 j (ft.pool.page j g' hj).1, if_neg e]
    exact g.same j g' hj hc'
  · rw [e1] at hj
    rw [s3]; exact g.ahead j g' hj
  · have hj' : j < S.P.pages := by rw [← e4]; exact hj
    rw [e3, s8 j hj']
    by_cases e : j = i
    · rw [if_pos e, fb2]
      have := (g.ahead i f hf).2 hch
      exact .inl (by omega)
    · rw [if_neg e]
      rcases g.wal j hj' with h | h
      · exact .inl (by omega)
      · exact .inr h
theorem storeR_held (S : St) (i : Nat) (f : Fm) : (storeR S i f).2.L.held = S.L.held := by
  have ha : (aheadR S f).2.L.held = S.L.held := by
    unfold aheadR
    split
    · exact (flL_hd _ _).2.2.1
    · rfl
  unfold storeR
  split
  · exact ha
  · split
    · exact ha
    · exact ha
theorem roomR_way (g : Good S) (wy : Way S) (ft : S.Fit c) (hc : c ≤ 400000) : Way (roomR S).2 ∧ (roomR S).2.L.held = S.L.held := by
  unfold roomR
  split
  · exact ⟨wy, rfl⟩
  · split
    · exact ⟨wy, rfl⟩
    · rename_i i _
      split
      · exact ⟨wy, rfl⟩
      · rename_i f hf
        split
        · rename_i hch
          have h1 := storeR_way g wy ft hc hf hch
          have h2 := storeR_held S i f
          split
          · exact ⟨h1, h2⟩
          · exact ⟨⟨h1.pen, h1.cnt⟩, h2⟩
        · exact ⟨⟨wy.pen, wy.cnt⟩, rfl⟩
theorem pageR_way (g : Good S) (wy : Way S) (ft : S.Fit c) (hc : c ≤ 400000) (x : Int) : Way (pageR S x).2 ∧ (pageR S x).2.L.held = S.L.held := by
  obtain ⟨h1, h2⟩ := roomR_way g wy ft hc
  unfold pageR
  split
  · exact ⟨wy, rfl⟩
  · split
    · exact ⟨⟨wy.pen, wy.cnt⟩, rfl⟩
    · split
      · exact ⟨wy, rfl⟩
      · split
        · exact ⟨h1, h2⟩
        · exact ⟨⟨h1.pen, h1.cnt⟩, h2⟩
theorem pageR_sub (ft : S.Fit c) (hc : c ≤ 400000) {j : Nat} {f : Fm} (hj : j ≠ i) (h : (pageR S (i : Int)).2.P.H j = some f) : S.P.H j = some f := by
  have hr := (roomR_fit ft hc).2.2.2.2.1
  unfold pageR at h
  split at h
  · exact h
  · rw [Int.toNat_natCast] at h
    split at h
    · exact (upM_other _ _ hj).symm.trans h
    · split at h
      · exact h
      · split at h
        · exact hr j f h
        · exact hr j f ((upM_other _ _ hj).symm.trans ((upM_other _ _ hj).symm.trans h))
/-- The pages stored, one after another. -/
theorem stAll_good : ∀ (zs : List Nat) (S : St) (c : Nat), Good S → Way S → S.Fit c → c + zs.length * (S.L.hd.cn + 3) ≤ 400000 → zs.Nodup → (∀ i, i ∈ zs → ∃ f, S.P.H i = some f ∧ f.ch = true) →
    (stAll zs S).1 = 0 ∧ Good (stAll zs S).2 ∧ Way (stAll zs S).2 ∧ (stAll zs S).2.P.H = S.P.H ∧ (stAll zs S).2.P.at_ = S.P.at_ ∧ (stAll zs S).2.P.pages = S.P.pages ∧ (stAll zs S).2.Fit (c + zs.length * (S.L.hd.cn + 3)) ∧ (stAll zs S).2.D.dur.length = S.D.dur.length ∧
    (∀ j f, j ∈ zs → S.P.H j = some f → (stAll zs S).2.D.at (S.P.at_ + j) = secB f) ∧ ∀ j, j < S.P.pages → j ∉ zs → (stAll zs S).2.D.at (S.P.at_ + j) = S.D.at (S.P.at_ + j)
  | [], S, c, g, wy, ft, _, _, _ => ⟨rfl, g, wy, rfl, rfl, rfl, by rw [List.length_nil, Nat.zero_mul]; exact ft, rfl, fun j f h => absurd h List.not_mem_nil, fun j _ _ => rfl⟩
  | i :: zs, S, c, g, wy, ft, hc, hn, hz => by
    obtain ⟨f, hf, hch⟩ := hz i List.mem_cons_self
    rw [List.length_cons, Nat.succ_mul] at hc
    have hc1 : c ≤ 400000 := by omega
    obtain ⟨s1, s2, s3, s4, s5, s6, s7, s8⟩ := storeR_good g ft hc1 hf hch
    obtain ⟨e1, e2, e3, e4, e5, e6, e7⟩ := storeR_P S i f
    obtain ⟨f1, f2⟩ := storeR_fit ft hc1 hf
    rw [List.nodup_cons] at hn
    have ih := stAll_good zs (storeR S i f).2 (c + S.L.hd.cn + 3) (storeR_Good g ft hc1 hf hch) (storeR_way g wy ft hc1 hf hch) f1 (by rw [e7]; omega) hn.2 (fun j hj => by rw [e1]; exact hz j (List.mem_cons_of_mem _ hj))
    rw [e1, e3, e4, e7, f2] at ih
    obtain ⟨i1, i2, i3, i4, i5, i6, i7, i8, i9, i10⟩ := ih
    rw [stAll_cons hf, s1, if_neg (fun h => h rfl)]
    refine ⟨i1, i2, i3, i4, i5, i6, i7.mono (by rw [List.length_cons, Nat.succ_mul]; omega), i8, fun j f' hj hf' => ?_, fun j hj hjz => ?_⟩
    · by_cases e : j = i
      · subst e
        rw [hf] at hf'
        injection hf' with hf'
        subst hf'
        rw [i10 j (ft.pool.page j f hf).1 hn.1, s8 j (ft.pool.page j f hf).1, if_pos rfl]
      · rcases List.mem_cons.1 hj with h | h
        · exact absurd h e
        · exact i9 j f' h hf'
    · rw [List.mem_cons, not_or] at hjz
      rw [i10 j hj hjz.2, s8 j hj, if_neg hjz.1]
theorem sD_pen {D : Dk} (h : Awk D) : (sD D).pen = [] := by
  unfold sD
  rw [if_neg (by rw [h.1]; decide), if_neg (by rw [h.2]; decide)]
  rfl
/-- Flush leaves all durable. -/
theorem pflR_good {zs : List Nat} (g : Good S) (wy : Way S) (ft : S.Fit c) (hc : c + zs.length * (S.L.hd.cn + 3) ≤ 400000) (hz : ChL S.P zs) : (pflR zs S).1 = 0 ∧ (pflR zs S).2.D.pen = [] ∧ Awk (pflR zs S).2.D ∧ Bd (pflR zs S).2.D ∧ (pflR zs S).2.D.dur.length = S.D.dur.length ∧
    ∀ j, j < S.P.pages → ((frameB ((pflR zs S).2.D.at (S.P.at_ + j))).by_, (frameB ((pflR zs S).2.D.at (S.P.at_ + j))).last) = cont S j := by
  obtain ⟨i1, i2, i3, i4, i5, i6, i7, i8, i9, i10⟩ := stAll_good zs S c g wy ft hc hz.nodup (fun i hi => (hz.mem i).1 hi)
  have hcont : ∀ j, j < S.P.pages → ((frameB ((stAll zs S).2.D.at (S.P.at_ + j))).by_, (frameB ((stAll zs S).2.D.at (S.P.at_ + j))).last) = cont S j := fun j hj => by
    unfold cont
    cases hH : S.P.H j with
    | none =>
      have hn : j ∉ zs := fun h => by
        obtain ⟨f, hf, -⟩ := (hz.mem j).1 h
        rw [hH] at hf; cases hf
      rw [i10 j hj hn]
    | some f =>
      have hfo := (ft.pool.page j f hH).2
      obtain ⟨fb1, fb2⟩ := frameB_sec hfo.by_ hfo.last
      by_cases hch : f.ch = true
      · rw [i9 j f ((hz.mem j).2 ⟨f, hH, hch⟩) hH, fb1, fb2]
      · have hn : j ∉ zs := fun h => by
          obtain ⟨f', hf, hc'⟩ := (hz.mem j).1 h
          rw [hH] at hf
          injection hf with hf
          rw [← hf] at hc'
          exact hch hc'
        rw [i10 j hj hn]
        exact (g.same j f hH (by simpa using hch)).symm
  have hlt : ∀ j, j < S.P.pages → S.P.at_ + j < (stAll zs S).2.D.dur.length := fun j hj => by
    have h1 : S.P.at_ + S.P.pages ≤ S.D.dur.length := ft.pool.at_
    omega
  unfold pflR
  rw [i1, if_neg (fun h => h rfl)]
  generalize stAll zs S = R at *
  obtain ⟨r, S1⟩ := R
  simp only at i1 i2 i3 i4 i5 i6 i7 i8 i9 i10 hcont hlt ⊢
  by_cases hm : (settleP S1.L S1.P).m = 0
  · rw [if_pos hm]
    refine ⟨rfl, ?_, i2.awk, i7.bd, i8, hcont⟩
    rcases i3.pen with h | ⟨h1, h2⟩
    · exact h
    · refine absurd hm ?_
      unfold settleP
      rw [if_neg h2]; exact h1
  · have hE : sE S1.D = 0 := awk_sync i2.awk
    rw [if_neg hm, hE, if_neg (fun h => h rfl)]
    have hb := sD_bd i7.bd (by have := i7.ops; omega)
    exact ⟨rfl, sD_pen i2.awk, awk_sD i2.awk, hb.1, hb.2.2.2.trans i8, fun j hj => by
      show ((frameB ((sD S1.D).at (S.P.at_ + j))).by_, (frameB ((sD S1.D).at (S.P.at_ + j))).last) = _
      rw [at_sD i2.awk _ (hlt j hj)]
      exact hcont j hj⟩
/-- A restart that keeps nothing of what is pending, where nothing is. -/
theorem fallen_at {D : Dk} (h : D.pen = []) (j : Nat) : (D.fallen []).at j = D.at j := by
  unfold Dk.fallen Dk.at
  rw [h]
  rfl
end
end Go.Proofs.YtnkcneccolbbdaaGreatDoor
namespace Go.Proofs.YtnkcneccolbbdaaGreatDoor
open Go.RowKit

def cH (H : Nat → Option Fm) : Nat → Nat
  | 0 => 0
  | n + 1 => cH H n + (if (H n).isSome then 1 else 0)
def cP (pins : Nat → Nat) : Nat → Nat
  | 0 => 0
  | n + 1 => cP pins n + (if 0 < pins n then 1 else 0)
theorem cH_congr {H H' : Nat → Option Fm} : ∀ n, (∀ j, j < n → (H' j).isSome = (H j).isSome) → cH H' n = cH H n
  | 0, _ => rfl
  | n + 1, h => by
    show cH H' n + _ = cH H n + _
    rw [cH_congr n (fun j hj => h j (by omega)), h n (by omega)]
theorem cH_up (H : Nat → Option Fm) (i : Nat) (d : Option Fm) : ∀ n, i < n → cH (upM H i d) n + (if (H i).isSome then 1 else 0) = cH H n + (if d.isSome then 1 else 0)
  | 0, h => absurd h (Nat.not_lt_zero _)
  | n + 1, h => by
    show cH (upM H i d) n + (if (upM H i d n).isSome then 1 else 0) + _ = cH H n + (if (H n).isSome then 1 else 0) + _
    by_cases e : i = n
    · subst e
      rw [upM_same, cH_congr i (fun j hj => by rw [upM_other _ _ (by omega)])]
      omega
    · rw [upM_other _ _ (Ne.symm e)]
      have := cH_up H i d n (by omega)
      omega
theorem cH_le {H : Nat → Option Fm} {pins : Nat → Nat} : ∀ n, (∀ j, j < n → (H j).isSome = true → 0 < pins j) → cH H n ≤ cP pins n
  | 0, _ => Nat.le_refl _
  | n + 1, h => by
    have ih := cH_le n (fun j hj => h j (by omega))
    show cH H n + (if (H n).isSome then 1 else 0) ≤ cP pins n + (if 0 < pins n then 1 else 0)
    by_cases e : (H n).isSome = true
    · rw [if_pos e, if_pos (h n (by omega) e)]
      omega
    · rw [if_neg e]
      omega
theorem cP_congr {p q : Nat → Nat} : ∀ n, (∀ j, j < n → p j = q j) → cP p n = cP q n
  | 0, _ => rfl
  | n + 1, h => by
    show cP p n + _ = cP q n + _
    rw [cP_congr n (fun j hj => h j (by omega)), h n (by omega)]
def pinOf (S : St) (j : Nat) : Nat := match S.P.H j with
  | some f => f.pins
  | none => 0
/-- All that holds of such a pool whose pages are l, pinned so often. -/
structure Pv (S : St) (n fr : Nat) (l : Nat → List UInt8 × Nat) (pins : Nat → Nat) (c : Nat) : Prop where
  good : Good S
  way : Way S
  fit : S.Fit c
  pages : S.P.pages = n
  frames : S.P.frames = fr
  at_ : S.P.at_ = 41
  dur : S.D.dur.length = 41 + n
  lcn : S.L.hd.cn = 40
  lst : S.L.hd.st = 480
  held : S.L.held = 0
  sure480 : 480 ≤ S.L.sure
  cont : ∀ j, j < n → cont S j = l j
  pins : ∀ j, j < n → pins j = pinOf S j
  cnt : S.P.n = cH S.P.H n
  dW : ∀ i s, S.P.W i = some s → i < n ∧ 0 < s ∧ s ≤ (l i).2
  dF : ∀ i f, S.P.H i = some f → f.ch = true → 0 < f.since ∧ f.since ≤ f.last
section
variable {S S1 : St} {n fr c i : Nat} {l : Nat → List UInt8 × Nat} {pins : Nat → Nat} {f : Fm}
theorem wayP_at (P : Pl) (i s : Nat) : ∀ j x, (wayP P i s).W j = some x → P.W j = some x ∨ (j = i ∧ x = s) := by
  unfold wayP
  split
  · exact fun j x h => .inl h
  · intro j x h
    have h : upM P.W i (some s) j = some x := h
    by_cases e : j = i
    · subst e
      rw [upM_same] at h
      injection h with h
      exact .inr ⟨rfl, h.symm⟩
    · rw [upM_other _ _ e] at h
      exact .inl h
theorem storeR_W (g : Good S) (ft : S.Fit c) (hc : c ≤ 400000) (hf : S.P.H i = some f) (hch : f.ch = true) : ∀ j x, (storeR S i f).2.P.W j = some x → S.P.W j = some x ∨ (j = i ∧ x = f.since) := by
  obtain ⟨a1, -⟩ := aheadR_good g ft hf hch
  have h0 := (storeR_good g ft hc hf hch).1
  have hp : (storeR S i f).2.P = wayP (settleP (storeR S i f).2.L S.P) i f.since := by
    unfold storeR at h0 ⊢
    rw [a1, if_neg (fun h => h rfl)] at h0 ⊢
    by_cases h2 : (putR (aheadR S f).2 i f).1 ≠ 0
    · rw [if_pos h2] at h0; exact absurd h0 h2
    · rw [if_neg h2]; rfl
  intro j x hj
  rw [hp] at hj
  rcases wayP_at _ _ _ j x hj with h | h
  · exact .inl ((settleP_is _ _).2.2.2.2.2.2.2.1 j x h)
  · exact .inr h
theorem roomR_W (g : Good S) (ft : S.Fit c) (hc : c ≤ 400000) (hcnt : S.P.n = cH S.P.H S.P.pages) : (∀ j x, (roomR S).2.P.W j = some x → S.P.W j = some x ∨ ∃ f, S.P.H j = some f ∧ f.ch = true ∧ x = f.since) ∧ (roomR S).2.P.n = cH (roomR S).2.P.H S.P.pages := by
  unfold roomR
  split
  · exact ⟨fun j x h => .inl h, hcnt⟩
  · rename_i hlt
    cases hid : idle S.P.H S.P.pages with
    | none => exact ⟨fun j x h => .inl h, hcnt⟩
    | some i =>
      obtain ⟨f, hf, hp0, hip⟩ := idle_is hid
      simp only [hf]
      have hup := cH_up S.P.H i none S.P.pages hip
      rw [hf] at hup
      have hup : cH (upM S.P.H i none) S.P.pages + 1 = cH S.P.H S.P.pages := by simpa using hup
      by_cases hch : f.ch = true
      · rw [if_pos hch]
        obtain ⟨s1, -⟩ := storeR_good g ft hc hf hch
        obtain ⟨e1, e2, -⟩ := storeR_P S i f
        rw [s1, if_neg (fun h => h rfl)]
        refine ⟨fun j x h => ?_, ?_⟩
        · rcases storeR_W g ft hc hf hch j x h with h1 | ⟨h1, h2⟩
          · exact .inl h1
          · rw [h1]
            exact .inr ⟨f, hf, hch, h2⟩
        · show (storeR S i f).2.P.n - 1 = cH (upM (storeR S i f).2.P.H i none) S.P.pages
          rw [e1, e2, hcnt]
          omega
      · rw [if_neg hch]
        refine ⟨fun j x h => .inl h, ?_⟩
        show S.P.n - 1 = cH (upM S.P.H i none) S.P.pages
        rw [hcnt]
        omega
/-- Can a page be had? -/
def Had (S : St) (i : Nat) : Prop := S.P.H i ≠ none ∨ S.P.n < S.P.frames ∨ idle S.P.H S.P.pages ≠ none
theorem Pv.may (h : Pv S n fr l pins c) (hi : i < n) (hm : 0 < pins i ∨ cP pins n < fr) : Had S i := by
  rcases hm with hm | hm
  · left
    intro e
    have h1 := h.pins i hi
    unfold pinOf at h1
    rw [e] at h1
    have h1 : pins i = 0 := h1
    omega
  · by_cases h1 : S.P.n < S.P.frames
    · exact .inr (.inl h1)
    · refine .inr (.inr fun e => ?_)
      have h2 : cH S.P.H n ≤ cP pins n := cH_le n (fun j hj hs => by
        obtain ⟨f, hf⟩ := Option.isSome_iff_exists.1 hs
        have h3 := h.pins j hj
        unfold pinOf at h3
        rw [hf] at h3
        have h3 : pins j = f.pins := h3
        rcases Nat.eq_zero_or_pos f.pins with h4 | h4
        · exact absurd e (idle_ne h.fit.pool f.used j f hf h4 (Nat.le_refl _))
        · omega)
      have h3 := h.cnt
      have h4 := h.frames
      omega
theorem Pv.in_ (h : Pv S n fr l pins c) (hi : i < n) : gE S.D ((S.P.at_ : Int) + (i : Int)) = 0 := by
  have e : (S.P.at_ : Int) + (i : Int) = ((S.P.at_ + i : Nat) : Int) := by omega
  rw [e]
  have h1 := h.at_
  have h2 := h.dur
  unfold gE
  rw [if_neg (by omega), if_neg (by rw [h.good.awk.1]; decide)]
/-- Where it can't, nothing turns. -/
theorem Pv.not_had (h : Pv S n fr l pins c) (hi : i < n) (hn : ¬ Had S i) : pageR S (i : Int) = (9, S) := by
  have h0 : S.P.H i = none := by
    cases hH : S.P.H i with
    | none => rfl
    | some f => exact absurd (.inl (by rw [hH]; simp)) hn
  have h1 : ¬ S.P.n < S.P.frames := fun e => hn (.inr (.inl e))
  have h2 : idle S.P.H S.P.pages = none := by
    cases hq : idle S.P.H S.P.pages with
    | none => rfl
    | some j => exact absurd (.inr (.inr (by rw [hq]; simp))) hn
  have h3 : roomR S = (9, S) := by
    unfold roomR
    rw [if_neg h1, h2]
  unfold pageR
  rw [if_neg (by have := h.pages; omega), Int.toNat_natCast, h0, h.in_ hi]
  simp only [ne_eq, not_true_eq_false, if_false]
  rw [h3]
  rfl
theorem Pv.page (h : Pv S n fr l pins c) (hc : c ≤ 300000) (hi : i < n) (hr : Had S i) : (pageR S (i : Int)).1 = 0 ∧ Pv (pageR S (i : Int)).2 n fr l pins (c + 44) ∧ endOf (pageR S (i : Int)).2.L = endOf S.L ∧ ∃ f, (pageR S (i : Int)).2.P.H i = some f ∧ (f.by_, f.last) = l i ∧ f.pins = pins i := by
  have hip : i < S.P.pages := by rw [h.pages]; exact hi
  obtain ⟨g1, g2, g3, g4, ⟨f, g5, g6, g7, g8⟩, g9, g10⟩ := pageR_good h.good h.fit (by omega) hip hr
  obtain ⟨f1, f2, f3, f4, f5, f6⟩ := pageR_fit h.fit (by omega) (i : Int)
  obtain ⟨w1, w2⟩ := pageR_way h.good h.way h.fit (by omega) (i : Int)
  have hsub := fun (j : Nat) (f : Fm) (hj : j ≠ i) => pageR_sub (i := i) (j := j) (f := f) h.fit (by omega) hj
  have hpin : f.pins = pins i := by rw [g7, h.pins i hi]; rfl
  have hW : (∀ j x, (pageR S (i : Int)).2.P.W j = some x → S.P.W j = some x ∨ ∃ f, S.P.H j = some f ∧ f.ch = true ∧ x = f.since) ∧ (pageR S (i : Int)).2.P.n = cH (pageR S (i : Int)).2.P.H n ∧ (∀ f', (pageR S (i : Int)).2.P.H i = some f' → f'.ch = true → 0 < f'.since ∧ f'.since ≤ f'.last) := by
    have hcnt := h.cnt
    rw [← h.pages] at hcnt
    obtain ⟨r1, r2⟩ := roomR_W h.good h.fit (by omega) hcnt
    have r3 := (roomR_fit h.fit (c := c) (by omega)).2.2.2.2.1
    rw [← h.pages]
    unfold pageR
    rw [if_neg (by omega), Int.toNat_natCast]
    cases hH : S.P.H i with
    | some f0 =>
      simp only
      refine ⟨fun j x hj => .inl hj, ?_, fun f' hf' hc' => ?_⟩
      · show S.P.n = cH (upM S.P.H i _) S.P.pages
        have := cH_up S.P.H i (some { f0 with used := S.P.asked + 1 }) S.P.pages hip
        rw [hH] at this
        have : cH (upM S.P.H i (some { f0 with used := S.P.asked + 1 })) S.P.pages + 1 = cH S.P.H S.P.pages + 1 := by simpa using this
        rw [hcnt]
        omega
      · have hf' : upM S.P.H i (some { f0 with used := S.P.asked + 1 }) i = some f' := hf'
        rw [upM_same] at hf'
        injection hf' with hf'
        subst hf'
        exact h.dF i f0 hH hc'
    | none =>
      have hrr : S.P.n < S.P.frames ∨ idle S.P.H S.P.pages ≠ none := by
        rcases hr with h1 | h1
        · exact absurd hH h1
        · exact h1
      have hg0 := (roomR_good h.good h.fit (c := c) (by omega) hrr).1
      rw [h.in_ hi]
      simp only [ne_eq, not_true_eq_false, if_false]
      rw [if_neg (by rw [hg0]; exact fun e => e rfl)]
      have hRn : (roomR S).2.P.H i = none := by
        cases hq : (roomR S).2.P.H i with
        | none => rfl
        | some f0 => rw [r3 i f0 hq] at hH; cases hH
      refine ⟨r1, ?_, fun f' hf' hc' => ?_⟩
      · show (roomR S).2.P.n + 1 = cH (upM (upM (roomR S).2.P.H i _) i _) S.P.pages
        have e1 := cH_up (roomR S).2.P.H i (some (frameB (gB S.D ((S.P.at_ : Int) + (i : Int))))) S.P.pages hip
        have e2 := cH_up (upM (roomR S).2.P.H i (some (frameB (gB S.D ((S.P.at_ : Int) + (i : Int)))))) i (some { frameB (gB S.D ((S.P.at_ : Int) + (i : Int))) with used := (bringP (roomR S).2.P i (gB S.D ((S.P.at_ : Int) + (i : Int)))).asked + 1 }) S.P.pages hip
        rw [upM_same] at e2
        rw [hRn] at e1
        simp only [Option.isSome_none, Option.isSome_some, if_true, Bool.false_eq_true, if_false] at e1 e2
        omega
      · have hf' : upM (upM (roomR S).2.P.H i (some (frameB (gB S.D ((S.P.at_ : Int) + (i : Int)))))) i (some { frameB (gB S.D ((S.P.at_ : Int) + (i : Int))) with used := (bringP (roomR S).2.P i (gB S.D ((S.P.at_ : Int) + (i : Int)))).asked + 1 }) i = some f' := hf'
        rw [upM_same] at hf'
        injection hf' with hf'
        subst hf'
        cases hc'
  refine ⟨g1, ⟨g2, w1, by have := h.lcn; rw [show c + 44 = c + 40 + 4 from rfl, ← this]; exact f1, by rw [f5]; exact h.pages, by rw [f6]; exact h.frames, by rw [f4]; exact h.at_, by rw [f2]; exact h.dur, by rw [f3]; exact h.lcn, by rw [f3]; exact h.lst, by rw [w2]; exact h.held, Nat.le_trans h.sure480 g10, fun j hj => by rw [g3 j (by rw [h.pages]; exact hj)]; exact h.cont j hj, fun j hj => ?_, hW.2.1, fun j s hj => ?_, fun j f' hj hc' => ?_⟩, g9, f, g5, by rw [g6]; exact h.cont i hi, hpin⟩
  · by_cases e : j = i
    · subst e
      unfold pinOf
      rw [g5]
      exact hpin.symm
    · rw [h.pins j hj]
      unfold pinOf
      cases hq : (pageR S (i : Int)).2.P.H j with
      | some f' => rw [hsub j f' e hq]
      | none =>
        cases hp : S.P.H j with
        | none => rfl
        | some f' =>
          show f'.pins = 0
          rcases Nat.eq_zero_or_pos f'.pins with h4 | h4
          · exact h4
          · have := g4 j f' e hp (by omega)
            rw [hq] at this
            cases this
  · rcases hW.1 j s hj with h1 | ⟨f', h1, h2, h3⟩
    · exact h.dW j s h1
    · have hjn : j < n := by rw [← h.pages]; exact (h.fit.pool.page j f' h1).1
      have h4 := h.dF j f' h1 h2
      have h5 := h.cont j hjn
      have h6 : (l j).2 = f'.last := by
        rw [← h5]
        unfold Proofs.YtnkcneccolbbdaaGreatDoor.cont
        rw [h1]
      exact ⟨hjn, by omega, by omega⟩
  · by_cases e : j = i
    · subst e
      exact hW.2.2 f' hj hc'
    · exact h.dF j f' (hsub j f' e hj) hc'
end
end Go.Proofs.YtnkcneccolbbdaaGreatDoor
namespace Go.Proofs.YtnkcneccolbbdaaGreatDoor
open Go.RowKit

section
variable {S S1 : St} {n fr c i : Nat} {l : Nat → List UInt8 × Nat} {pins : Nat → Nat} {f : Fm}
theorem pv_pins_good {k : Nat} (g : Good S) (hf : S.P.H k = some f) (m : Nat) : Good (setS S k { f with pins := m }) ∧ ∀ j, cont (setS S k { f with pins := m }) j = cont S j := by
  refine ⟨⟨g.awk, g.apart, fun j g' hj hc' => ?_, fun j g' hj => ?_, g.wal, g.sure, g.pos⟩, fun j => ?_⟩
  · by_cases e : j = k
    · subst e
      have hj := Option.some.inj ((upM_same _ _ _).symm.trans hj)
      subst hj
      exact g.same j f hf hc'
    · exact g.same j g' ((upM_other _ _ e).symm.trans hj) hc'
  · by_cases e : j = k
    · subst e
      have hj := Option.some.inj ((upM_same _ _ _).symm.trans hj)
      subst hj
      exact g.ahead j f hf
    · exact g.ahead j g' ((upM_other _ _ e).symm.trans hj)
  · unfold cont setS
    by_cases e : j = k
    · subst e
      simp only [upM_same, hf]
    · simp only [upM_other _ _ e]
/-- No page is ahead of the log's end. -/
theorem Pv.last (h : Pv S n fr l pins c) {k : Nat} (hk : k < n) : (l k).2 < endOf S.L := by
  have g := h.good
  have h0 : (frameB (S.D.at (S.P.at_ + k))).last < endOf S.L := by
    have h1 := g.sure
    have h2 := g.pos
    rcases g.wal k (by rw [h.pages]; exact hk) with h3 | h3 <;> omega
  rw [← h.cont k hk]
  unfold Proofs.YtnkcneccolbbdaaGreatDoor.cont
  cases hH : S.P.H k with
  | none => exact h0
  | some f =>
    by_cases hc : f.ch = true
    · have h1 := (g.ahead k f hH).2 hc
      have h2 := (g.ahead k f hH).1
      exact Nat.lt_of_le_of_lt h1 h2
    · have h1 := congrArg Prod.snd (g.same k f hH (by simpa using hc))
      show f.last < _
      rw [show f.last = (frameB (S.D.at (S.P.at_ + k))).last from h1]
      exact h0
theorem Pv.frame (h : Pv S n fr l pins c) {k : Nat} (hk : k < n) (hf : S.P.H k = some f) : (f.by_, f.last) = l k := by
  rw [← h.cont k hk]
  unfold Proofs.YtnkcneccolbbdaaGreatDoor.cont
  rw [hf]
theorem Pv.append (h : Pv S n fr l pins c) (p : List UInt8) (hr : endOf S.L + (p.length + 2) ≤ 480 + 480 * 40) : Pv (apS S p) n fr l pins c ∧ endOf (apS S p).L = endOf S.L + (p.length + 2) := by
  obtain ⟨e1, e2, e3, e4, e5, e6⟩ := apS_end S p
  obtain ⟨g1, g2⟩ := apS_good h.good p
  have hs0 := h.good.pos
  have hfit : (apS S p).Fit c := apS_fit h.fit p (by
    rw [h.lcn]
    have h1 : endOf S.L = flo S.L.sure + S.L.tail.length := rfl
    have h2 : 480 ≤ flo S.L.sure := by
      have h3 := h.sure480
      unfold flo
      omega
    omega)
  exact ⟨⟨g1, ⟨h.way.pen, h.way.cnt⟩, hfit, h.pages, h.frames, h.at_, h.dur, by rw [e3]; exact h.lcn, by rw [e3]; exact h.lst, by rw [e6]; exact h.held, by rw [e2]; exact h.sure480, fun j hj => by rw [g2 j]; exact h.cont j hj, h.pins, h.cnt, h.dW, h.dF⟩, e1⟩
theorem Pv.write (h : Pv S n fr l pins c) (hi : i < n) (hf : S.P.H i = some f) (off : Nat) (m : List UInt8) (lsn : Nat) (hm : off + m.length ≤ 504) (hl : lsn < endOf S.L) (hl2 : (l i).2 ≤ lsn) (h0 : 0 < lsn) (hb : endOf S.L < 1000000000) :
    Pv (setS S i (chF f off m lsn)) n fr (fun j => if j = i then (over (l i).1 off m, lsn) else l j) pins c := by
  obtain ⟨g1, g2⟩ := write_good h.good hf off m lsn hl
  have hfr := h.frame hi hf
  have hb1 : f.by_ = (l i).1 := congrArg Prod.fst hfr
  have hb2 : f.last = (l i).2 := congrArg Prod.snd hfr
  have hok := (h.fit.pool.page i f hf).2
  refine ⟨g1, ⟨h.way.pen, h.way.cnt⟩, setS_fit h.fit hf (chF_ok hok off m lsn hm (by omega)) rfl, h.pages, h.frames, h.at_, h.dur, h.lcn, h.lst, h.held, h.sure480, fun j hj => ?_, fun j hj => ?_, ?_, fun j s hj => ?_, fun j f' hj hc' => ?_⟩
  · rw [g2 j]
    show _ = if j = i then _ else _
    by_cases e : j = i
    · rw [if_pos e, if_pos e, hb1]
    · rw [if_neg e, if_neg e]
      exact h.cont j hj
  · rw [h.pins j hj]
    unfold pinOf setS
    by_cases e : j = i
    · subst e
      simp only [upM_same, hf]
      rfl
    · simp only [upM_other _ _ e]
  · show S.P.n = cH (upM S.P.H i (some (chF f off m lsn))) n
    have e1 := cH_up S.P.H i (some (chF f off m lsn)) n hi
    rw [hf] at e1
    have e1 : cH (upM S.P.H i (some (chF f off m lsn))) n + 1 = cH S.P.H n + 1 := by simpa using e1
    rw [h.cnt]
    omega
  · obtain ⟨d1, d2, d3⟩ := h.dW j s hj
    refine ⟨d1, d2, ?_⟩
    show s ≤ (if j = i then (over (l i).1 off m, lsn) else l j).2
    by_cases e : j = i
    · subst e
      rw [if_pos rfl]
      show s ≤ lsn
      omega
    · rw [if_neg e]
      exact d3
  · by_cases e : j = i
    · subst e
      have hj := Option.some.inj ((upM_same _ _ _).symm.trans hj)
      subst hj
      show 0 < (if f.ch = true then f.since else lsn) ∧ (if f.ch = true then f.since else lsn) ≤ lsn
      by_cases e : f.ch = true
      · rw [if_pos e]
        have := h.dF j f hf e
        omega
      · rw [if_neg e]
        omega
    · exact h.dF j f' ((upM_other _ _ e).symm.trans hj) hc'
theorem Pv.setPins (h : Pv S n fr l pins c) (hi : i < n) (hf : S.P.H i = some f) (m : Nat) (hm : m < 1000000) : Pv (setS S i { f with pins := m }) n fr l (fun j => if j = i then m else pins j) c := by
  obtain ⟨g1, g2⟩ := pv_pins_good h.good hf m
  have hok := (h.fit.pool.page i f hf).2
  refine ⟨g1, ⟨h.way.pen, h.way.cnt⟩, setS_fit h.fit hf ⟨hok.by_, hok.last, hok.hi, hok.since, hm, hok.used⟩ rfl, h.pages, h.frames, h.at_, h.dur, h.lcn, h.lst, h.held, h.sure480, fun j hj => by rw [g2 j]; exact h.cont j hj, fun j hj => ?_, ?_, h.dW, fun j f' hj hc' => ?_⟩
  · show (if j = i then m else pins j) = _
    unfold pinOf setS
    by_cases e : j = i
    · subst e
      rw [if_pos rfl]
      simp only [upM_same]
    · rw [if_neg e, h.pins j hj]
      simp only [upM_other _ _ e]
      rfl
  · show S.P.n = cH (upM S.P.H i (some { f with pins := m })) n
    have e1 := cH_up S.P.H i (some { f with pins := m }) n hi
    rw [hf] at e1
    have e1 : cH (upM S.P.H i (some { f with pins := m })) n + 1 = cH S.P.H n + 1 := by simpa using e1
    rw [h.cnt]
    omega
  · by_cases e : j = i
    · subst e
      have hj := Option.some.inj ((upM_same _ _ _).symm.trans hj)
      subst hj
      exact h.dF j f hf hc'
    · exact h.dF j f' ((upM_other _ _ e).symm.trans hj) hc'
/-- Dirty settles. -/
theorem Pv.settle (h : Pv S n fr l pins c) : Pv { S with P := settleP S.L S.P } n fr l pins c := by
  obtain ⟨e1, e2, e3, e4, e5, e6, e7, e8, e9⟩ := settleP_is S.L S.P
  have g := h.good
  have hw := settleP_cnt (L := S.L) h.way.cnt
  have hp := h.fit.pool
  refine ⟨⟨g.awk, by show _ ≤ (settleP S.L S.P).at_; rw [e3]; exact g.apart, fun j f hj hc => ?_, fun j f hj => ?_, fun j hj => ?_, g.sure, g.pos⟩, ⟨?_, hw.1⟩, ⟨h.fit.bd, h.fit.log, ⟨by rw [e3, e4]; exact hp.at_, hp.max, by rw [e4]; exact hp.pages, by rw [e5]; exact hp.frames, fun j f hj => ?_, fun i j f g hi hj hu => ?_, by rw [e2, e5]; exact hp.cnt, fun i s hi => hp.way i s (e8 i s hi), by rcases e9 with e | e; rw [e]; exact hp.sure; rw [e]; have := h.fit.log.sure; omega⟩, h.fit.pen, h.fit.ops, h.fit.tail, h.fit.sure, by show (settleP S.L S.P).asked ≤ c; rw [e6]; exact h.fit.asked, Nat.le_trans e7 h.fit.wcnt⟩, by rw [e4]; exact h.pages, by rw [e5]; exact h.frames, by rw [e3]; exact h.at_, h.dur, h.lcn, h.lst, h.held, h.sure480, fun j hj => ?_, fun j hj => ?_, ?_, fun j s hj => h.dW j s (e8 j s hj), fun j f hj hc => h.dF j f (by rw [← e1]; exact hj) hc⟩
  · have hj : (settleP S.L S.P).H j = some f := hj
    rw [e1] at hj
    show _ = ((frameB (S.D.at ((settleP S.L S.P).at_ + j))).by_, (frameB (S.D.at ((settleP S.L S.P).at_ + j))).last)
    rw [e3]
    exact g.same j f hj hc
  · have hj : (settleP S.L S.P).H j = some f := hj
    rw [e1] at hj
    exact g.ahead j f hj
  · have hj : j < (settleP S.L S.P).pages := hj
    rw [e4] at hj
    show (frameB (S.D.at ((settleP S.L S.P).at_ + j))).last < _ ∨ _
    rw [e3]
    exact g.wal j hj
  · rcases h.way.pen with hp | ⟨hp1, hp2⟩
    · exact .inl hp
    · right
      have e : settleP S.L S.P = S.P := by unfold settleP; rw [if_neg hp2]
      show (settleP S.L S.P).m ≠ 0 ∧ ¬ (settleP S.L S.P).sure < _
      rw [e]
      exact ⟨hp1, hp2⟩
  · have hj : (settleP S.L S.P).H j = some f := hj
    rw [e1] at hj
    obtain ⟨p1, p2⟩ := hp.page j f hj
    exact ⟨by show j < (settleP S.L S.P).pages; rw [e4]; exact p1, p2.by_, p2.last, p2.hi, p2.since, p2.pins, by show f.used ≤ (settleP S.L S.P).asked; rw [e6]; exact p2.used⟩
  · have hi : (settleP S.L S.P).H i = some f := hi
    have hj : (settleP S.L S.P).H j = some g := hj
    rw [e1] at hi hj
    exact hp.one i j f g hi hj hu
  · rw [← h.cont j hj]
    unfold Proofs.YtnkcneccolbbdaaGreatDoor.cont
    show (match (settleP S.L S.P).H j with | some f => (f.by_, f.last) | none => ((frameB (S.D.at ((settleP S.L S.P).at_ + j))).by_, (frameB (S.D.at ((settleP S.L S.P).at_ + j))).last)) = _
    rw [e1, e3]
    rfl
  · rw [h.pins j hj]
    unfold pinOf
    show _ = (match (settleP S.L S.P).H j with | some f => f.pins | none => 0)
    rw [e1]
    all_goals rfl
  · show (settleP S.L S.P).n = cH (settleP S.L S.P).H n
    rw [e1, e2]
    exact h.cnt
/-- The log's own Flush. -/
theorem Pv.lflush (h : Pv S n fr l pins c) (hc : c ≤ 300000) : flE S.D S.L = 0 ∧ Pv ⟨flD S.D S.L, flL S.D S.L, S.P⟩ n fr l pins (c + 44) ∧ endOf (flL S.D S.L) = endOf S.L := by
  have g := h.good
  have hcn : 0 < S.L.hd.cn := by rw [h.lcn]; decide
  have hat := h.fit.log.at_
  obtain ⟨e1, e2, e3, e4, e5⟩ := fl_good (L := S.L) g.awk hat hcn
  obtain ⟨q1, q2, q3, q4, q5⟩ := flL_hd S.D S.L
  have hsec : ∀ j, j < n → ∀ a, secOf S.L a ≠ S.P.at_ + j := fun j hj => sec_far g hcn j
  have hlt : ∀ j, j < n → S.P.at_ + j < S.D.dur.length := fun j hj => by rw [h.at_, h.dur]; omega
  have hat2 : ∀ j, j < n → (flD S.D S.L).at (S.P.at_ + j) = S.D.at (S.P.at_ + j) := fun j hj => e5 _ (hlt j hj) (hsec j hj)
  obtain ⟨b1, b2, b3, b4⟩ := flD_bd (D := S.D) (L := S.L) (T := 480 * S.L.hd.cn) h.fit.tail h.fit.bd (by have := h.fit.pen; have := h.lcn; omega) (by have := h.fit.ops; have := h.lcn; omega)
  have hcn40 := h.lcn
  have hsu := h.fit.sure
  have htl := h.fit.tail
  have hp := h.fit.pool
  have hok : (flL S.D S.L).Ok (flD S.D S.L) := flL_ok h.fit.log (by omega) b4
  have hpen : (flD S.D S.L).pen = [] ∨ ((flD S.D S.L) = S.D ∧ flL S.D S.L = S.L) := by
    by_cases hs : S.L.sure = endOf S.L
    · right
      refine ⟨?_, ?_⟩
      · unfold flD; rw [if_neg (by rw [g.awk.1]; decide), if_pos hs]
      · unfold flL; rw [if_neg (fun hh => hh.2 hs)]
    · left
      have hz := awk_flW S.L hat hcn S.L.tail.length 0 S.D g.awk rfl
      have hz1 : (flZ S.D S.L).1 = 0 := hz.1
      unfold flD
      rw [if_neg (by rw [g.awk.1]; decide), if_neg hs, hz1, if_neg (by decide)]
      exact sD_pen hz.2.1
  refine ⟨e1, ⟨⟨e2, by show (flL S.D S.L).at_ + 1 + (flL S.D S.L).hd.cn ≤ _; rw [q1, q2]; exact g.apart, fun j f hj hc' => ?_, fun j f hj => ?_, fun j hj => ?_, ?_, ?_⟩, ⟨?_, h.way.cnt⟩, ⟨b1, hok, ⟨by show _ ≤ (flD S.D S.L).dur.length; rw [b4]; exact hp.at_, by rw [b4]; exact hp.max, hp.pages, hp.frames, hp.page, hp.one, hp.cnt, hp.way, hp.sure⟩, by show (flD S.D S.L).pen.length ≤ _; have := h.fit.pen; omega, by show (flD S.D S.L).ops ≤ _; have := h.fit.ops; omega, by show (flL S.D S.L).tail.length ≤ 480 * (flL S.D S.L).hd.cn; rw [q1]; omega, by show (flL S.D S.L).sure ≤ _; omega, by have := h.fit.asked; show S.P.asked ≤ _; omega, by have := h.fit.wcnt; show S.P.m ≤ _; omega⟩, h.pages, h.frames, h.at_, by show (flD S.D S.L).dur.length = _; rw [b4]; exact h.dur, by show (flL S.D S.L).hd.cn = _; rw [q1]; exact h.lcn, by show (flL S.D S.L).hd.st = _; rw [q1]; exact h.lst, by show (flL S.D S.L).held = _; rw [q3]; exact h.held, ?_, fun j hj => ?_, h.pins, h.cnt, h.dW, h.dF⟩, e4⟩
  · show _ = ((frameB ((flD S.D S.L).at (S.P.at_ + j))).by_, (frameB ((flD S.D S.L).at (S.P.at_ + j))).last)
    rw [hat2 j (by rw [← h.pages]; exact (hp.page j f hj).1)]
    exact g.same j f hj hc'
  · show f.hi < endOf (flL S.D S.L) ∧ _
    rw [e4]
    exact g.ahead j f hj
  · show (frameB ((flD S.D S.L).at (S.P.at_ + j))).last < (flL S.D S.L).sure ∨ _
    rw [hat2 j (by rw [← h.pages]; exact hj), e3]
    rcases g.wal j hj with h1 | h1
    · exact .inl (Nat.lt_of_lt_of_le h1 g.sure)
    · exact .inr h1
  · show (flL S.D S.L).sure ≤ endOf (flL S.D S.L)
    rw [e3, e4]
    exact Nat.le_refl _
  · show 0 < (flL S.D S.L).sure
    rw [e3]
    exact Nat.lt_of_lt_of_le g.pos g.sure
  · rcases hpen with h1 | ⟨h1, h2⟩
    · exact .inl h1
    · show (flD S.D S.L).pen = [] ∨ (S.P.m ≠ 0 ∧ ¬ S.P.sure < (flL S.D S.L).sure)
      rw [h1, h2]
      exact h.way.pen
  · show 480 ≤ (flL S.D S.L).sure
    rw [e3]
    exact Nat.le_trans h.sure480 g.sure
  · rw [← h.cont j hj]
    unfold Proofs.YtnkcneccolbbdaaGreatDoor.cont
    show (match S.P.H j with | some f => (f.by_, f.last) | none => ((frameB ((flD S.D S.L).at (S.P.at_ + j))).by_, (frameB ((flD S.D S.L).at (S.P.at_ + j))).last)) = _
    rw [hat2 j hj]
    rfl
end
end Go.Proofs.YtnkcneccolbbdaaGreatDoor
namespace Go.Proofs.YtnkcneccolbbdaaGreatDoor
open Go.RowKit

section
variable {S S1 : St} {n fr c i : Nat} {l : Nat → List UInt8 × Nat} {pins : Nat → Nat} {f : Fm}
theorem storeR_way2 (g : Good S) (wy : Way S) (ft : S.Fit c) (hc : c ≤ 400000) (hf : S.P.H i = some f) (hch : f.ch = true) : (storeR S i f).2.P.m ≠ 0 ∧ ¬ (storeR S i f).2.P.sure < (storeR S i f).2.L.sure := by
  obtain ⟨a1, -⟩ := aheadR_good g ft hf hch
  have h0 := (storeR_good g ft hc hf hch).1
  have hp : (storeR S i f).2.P = wayP (settleP (storeR S i f).2.L S.P) i f.since := by
    unfold storeR at h0 ⊢
    rw [a1, if_neg (fun h => h rfl)] at h0 ⊢
    by_cases h2 : (putR (aheadR S f).2 i f).1 ≠ 0
    · rw [if_pos h2] at h0; exact absurd h0 h2
    · rw [if_neg h2]; rfl
  have hs := settleP_cnt (L := (storeR S i f).2.L) wy.cnt
  exact ⟨by rw [hp]; exact wayP_m hs.1 _ _, by rw [hp, (wayP_is _ _ _).2.2.2.2.2.2.2.2]; exact hs.2⟩
theorem stAll_more : ∀ (zs : List Nat) (S : St) (c : Nat), Good S → Way S → S.Fit c → c + zs.length * (S.L.hd.cn + 3) ≤ 400000 → zs.Nodup → (∀ i, i ∈ zs → ∃ f, S.P.H i = some f ∧ f.ch = true) →
    (stAll zs S).2.P.n = S.P.n ∧ (stAll zs S).2.P.frames = S.P.frames ∧ (stAll zs S).2.L.hd = S.L.hd ∧ (stAll zs S).2.L.held = S.L.held ∧ endOf (stAll zs S).2.L = endOf S.L ∧ S.L.sure ≤ (stAll zs S).2.L.sure ∧
    (∀ j x, (stAll zs S).2.P.W j = some x → S.P.W j = some x ∨ ∃ f, S.P.H j = some f ∧ f.ch = true ∧ x = f.since) ∧ (zs ≠ [] → (stAll zs S).2.P.m ≠ 0 ∧ ¬ (stAll zs S).2.P.sure < (stAll zs S).2.L.sure)
  | [], S, c, g, wy, ft, _, _, _ => ⟨rfl, rfl, rfl, rfl, rfl, Nat.le_refl _, fun j x h => .inl h, fun h => absurd rfl h⟩
  | i :: zs, S, c, g, wy, ft, hc, hn, hz => by
    obtain ⟨f, hf, hch⟩ := hz i List.mem_cons_self
    rw [List.length_cons, Nat.succ_mul] at hc
    have hc1 : c ≤ 400000 := by omega
    obtain ⟨s1, s2, s3, s4, s5, s6, s7, s8⟩ := storeR_good g ft hc1 hf hch
    obtain ⟨e1, e2, e3, e4, e5, e6, e7⟩ := storeR_P S i f
    obtain ⟨f1, f2⟩ := storeR_fit ft hc1 hf
    have hn2 := hn
    rw [List.nodup_cons] at hn2
    have ih := stAll_more zs (storeR S i f).2 (c + S.L.hd.cn + 3) (storeR_Good g ft hc1 hf hch) (storeR_way g wy ft hc1 hf hch) f1 (by rw [e7]; omega) hn2.2 (fun j hj => by rw [e1]; exact hz j (List.mem_cons_of_mem _ hj))
    obtain ⟨i1, i2, i3, i4, i5, i6, i7, i8⟩ := ih
    rw [stAll_cons hf, s1, if_neg (fun h => h rfl)]
    refine ⟨by rw [i1, e2], by rw [i2, e5], by rw [i3, e7], by rw [i4]; exact storeR_held S i f, by rw [i5, s3], Nat.le_trans s4 i6, fun j x h => ?_, fun _ => ?_⟩
    · rcases i7 j x h with h1 | ⟨f', h1, h2, h3⟩
      · rcases storeR_W g ft hc1 hf hch j x h1 with h4 | ⟨h4, h5⟩
        · exact .inl h4
        · rw [h4]; exact .inr ⟨f, hf, hch, h5⟩
      · rw [e1] at h1
        exact .inr ⟨f', h1, h2, h3⟩
    · cases zs with
      | nil => exact storeR_way2 g wy ft hc1 hf hch
      | cons a zs => exact i8 (by simp)
/-- Nothing is dirty. -/
def Clean (S : St) : Prop := (∀ i, S.P.W i = none) ∧ ∀ i f, S.P.H i = some f → f.ch = false
theorem Pv.flush (h : Pv S n fr l pins c) {zs : List Nat} (hz : ChL S.P zs) (hc : c + zs.length * 43 ≤ 300000) : (pflR zs S).1 = 0 ∧ Pv (pflR zs S).2 n fr l pins (c + zs.length * 43 + 1) ∧ endOf (pflR zs S).2.L = endOf S.L ∧ Clean (pflR zs S).2 ∧ (pflR zs S).2.D.pen = [] := by
  have hcn := h.lcn
  have hzc : ∀ i, i ∈ zs → ∃ f, S.P.H i = some f ∧ f.ch = true := fun i hi => (hz.mem i).1 hi
  have hcc : c + zs.length * (S.L.hd.cn + 3) ≤ 400000 := by rw [hcn]; omega
  obtain ⟨i1, i2, i3, i4, i5, i6, i7, i8, i9, i10⟩ := stAll_good zs S c h.good h.way h.fit hcc hz.nodup hzc
  obtain ⟨m1, m2, m3, m4, m5, m6, m7, m8⟩ := stAll_more zs S c h.good h.way h.fit hcc hz.nodup hzc
  obtain ⟨w1, w2, w3, w4, w5, w6⟩ := pflR_good h.good h.way h.fit hcc hz
  rw [hcn] at i7
  -- the pages stored
  have hS1 : Pv (stAll zs S).2 n fr l pins (c + zs.length * 43) := by
    refine ⟨i2, i3, i7, by rw [i6]; exact h.pages, by rw [m2]; exact h.frames, by rw [i5]; exact h.at_, by rw [i8]; exact h.dur, by rw [m3]; exact h.lcn, by rw [m3]; exact h.lst, by rw [m4]; exact h.held, Nat.le_trans h.sure480 m6, fun j hj => ?_, fun j hj => ?_, by rw [m1, i4]; exact h.cnt, fun j s hj => ?_, fun j f hj hc => h.dF j f (by rw [← i4]; exact hj) hc⟩
    · rw [← h.cont j hj]
      unfold Proofs.YtnkcneccolbbdaaGreatDoor.cont
      rw [i4, i5]
      cases hH : S.P.H j with
      | some f => rfl
      | none =>
        have hnz : j ∉ zs := fun hh => by
          obtain ⟨f, hf, -⟩ := hzc j hh
          rw [hH] at hf; cases hf
        simp only
        rw [i10 j (by rw [h.pages]; exact hj) hnz]
    · rw [h.pins j hj]
      unfold pinOf
      rw [i4]
    · rcases m7 j s hj with h1 | ⟨f, h1, h2, h3⟩
      · exact h.dW j s h1
      · have hjn : j < n := by rw [← h.pages]; exact (h.fit.pool.page j f h1).1
        have h4 := h.dF j f h1 h2
        have h6 : (l j).2 = f.last := congrArg Prod.snd (h.frame hjn h1).symm
        exact ⟨hjn, by omega, by omega⟩
  refine ⟨w1, ?_⟩
  unfold pflR at w1 w2 ⊢
  rw [i1, if_neg (fun hh => hh rfl)] at w1 w2 ⊢
  generalize stAll zs S = R at *
  obtain ⟨r, T⟩ := R
  simp only at i1 i2 i3 i4 i5 i6 i7 i8 i9 i10 m1 m2 m3 m4 m5 m6 m7 m8 hS1 w1 w2 ⊢
  by_cases hm : (settleP T.L T.P).m = 0
  · rw [if_pos hm] at w2 ⊢
    have hp := hS1.settle
    have hze : zs = [] := by
      cases zs with
      | nil => rfl
      | cons a zs =>
        exfalso
        obtain ⟨q1, q2⟩ := m8 (by simp)
        unfold settleP at hm
        rw [if_neg q2] at hm
        exact q1 hm
    refine ⟨⟨hp.good, hp.way, hp.fit.mono (Nat.le_succ _), hp.pages, hp.frames, hp.at_, hp.dur, hp.lcn, hp.lst, hp.held, hp.sure480, hp.cont, hp.pins, hp.cnt, hp.dW, hp.dF⟩, m5, ⟨fun i => ?_, fun i f hf => ?_⟩, w2⟩
    · cases hW : (settleP T.L T.P).W i with
      | none => rfl
      | some s => exact absurd hm (hp.way.cnt i s hW)
    · have hf : (settleP T.L T.P).H i = some f := hf
      rw [(settleP_is T.L T.P).1, i4] at hf
      cases hc : f.ch with
      | false => rfl
      | true =>
        have := (hz.mem i).2 ⟨f, hf, hc⟩
        rw [hze] at this
        cases this
  · have hE : sE T.D = 0 := awk_sync i2.awk
    rw [if_neg hm, hE, if_neg (fun hh => hh rfl)] at w2 ⊢
    obtain ⟨e1, e2, e3, e4, e5, e6, e7, e8, e9⟩ := settleP_is T.L T.P
    have hb := sD_bd i7.bd (by have := i7.ops; omega)
    have hpo := i7.pool
    have hat : ∀ j, j < n → (sD T.D).at (41 + j) = T.D.at (41 + j) := fun j hj => at_sD i2.awk _ (by have := hS1.dur; omega)
    obtain ⟨P2, hP2⟩ : ∃ P2, noCh zs { settleP T.L T.P with W := fun _ => none, m := 0 } = P2 := ⟨_, rfl⟩
    have hH : ∀ j, P2.H j = (S.P.H j).map fun f => if j ∈ zs then { f with ch := false } else f := fun j => by
      rw [← hP2]
      show ((settleP T.L T.P).H j).map _ = _
      rw [e1, i4]
    have hHs : ∀ j f, P2.H j = some f → ∃ f0, S.P.H j = some f0 ∧ f.ch = false ∧ f.by_ = f0.by_ ∧ f.last = f0.last ∧ f.hi = f0.hi ∧ f.pins = f0.pins ∧ f.used = f0.used ∧ f.since = f0.since := fun j f hf => by
      rw [hH j] at hf
      cases h0 : S.P.H j with
      | none => rw [h0] at hf; cases hf
      | some f0 =>
        rw [h0] at hf
        have hf : (if j ∈ zs then { f0 with ch := false } else f0) = f := Option.some.inj hf
        refine ⟨f0, rfl, ?_⟩
        rw [← hf]
        by_cases hjz : j ∈ zs
        · rw [if_pos hjz]
          exact ⟨rfl, rfl, rfl, rfl, rfl, rfl, rfl⟩
        · rw [if_neg hjz]
          refine ⟨?_, rfl, rfl, rfl, rfl, rfl, rfl⟩
          cases hc : f0.ch with
          | false => rfl
          | true => exact absurd ((hz.mem j).2 ⟨f0, h0, hc⟩) hjz
    have hr : P2.at_ = 41 ∧ P2.pages = n ∧ P2.frames = fr ∧ P2.n = S.P.n ∧ P2.m = 0 ∧ P2.asked = T.P.asked ∧ (∀ i, P2.W i = none) ∧ (P2.sure = T.P.sure ∨ P2.sure = T.L.sure) := by
      rw [← hP2]
      exact ⟨by show (settleP T.L T.P).at_ = 41; rw [e3]; exact hS1.at_, by show (settleP T.L T.P).pages = n; rw [e4]; exact hS1.pages, by show (settleP T.L T.P).frames = fr; rw [e5]; exact hS1.frames, by show (settleP T.L T.P).n = _; rw [e2]; exact m1, rfl, by show (settleP T.L T.P).asked = _; exact e6, fun _ => rfl, e9⟩
    obtain ⟨r1, r2, r3, r4, r5, r6, r7, r8⟩ := hr
    rw [hP2] at w2 ⊢
    have hfrm : ∀ j f0, S.P.H j = some f0 → j < n ∧ (f0.by_, f0.last) = ((frameB (T.D.at (41 + j))).by_, (frameB (T.D.at (41 + j))).last) := fun j f0 h0 => by
      obtain ⟨p1, p2⟩ := h.fit.pool.page j f0 h0
      have hjn : j < n := by rw [← h.pages]; exact p1
      refine ⟨hjn, ?_⟩
      obtain ⟨fb1, fb2⟩ := frameB_sec p2.by_ p2.last
      cases hc : f0.ch with
      | true =>
        have h1 := i9 j f0 ((hz.mem j).2 ⟨f0, h0, hc⟩) h0
        rw [h.at_] at h1
        rw [h1, fb1, fb2]
      | false =>
        have h1 := i2.same j f0 (by rw [i4]; exact h0) hc
        rw [hS1.at_] at h1
        exact h1
    refine ⟨⟨⟨awk_sD i2.awk, by show _ ≤ P2.at_; rw [r1]; have := hS1.good.apart; rw [hS1.at_] at this; exact this, fun j f hf hc' => ?_, fun j f hf => ?_, fun j hj => ?_, i2.sure, i2.pos⟩, ⟨.inl w2, fun i s hi => by rw [r7 i] at hi; cases hi⟩, ⟨hb.1, ⟨i7.log.hd, i7.log.cn, by show _ ≤ (sD T.D).dur.length; rw [hb.2.2.2]; exact i7.log.at_, i7.log.sure, i7.log.tail, i7.log.held⟩, ⟨by show P2.at_ + P2.pages ≤ (sD T.D).dur.length; rw [hb.2.2.2, r1, r2]; have := hS1.dur; show _ ≤ T.D.dur.length; omega, by show (sD T.D).dur.length ≤ _; rw [hb.2.2.2]; exact hpo.max, by rw [r2]; have := hpo.pages; rw [hS1.pages] at this; exact this, by rw [r3]; have := hpo.frames; rw [hS1.frames] at this; exact this, fun j f hf => ?_, fun i j f g hi hj hu => ?_, by rw [r4, r3]; have := h.fit.pool.cnt; rw [h.frames] at this; exact this, (fun i s hi => by rw [r7 i] at hi; cases hi), by rcases r8 with e | e; rw [e]; exact hpo.sure; rw [e]; have := i7.log.sure; omega⟩, by show (sD T.D).pen.length ≤ _; rw [w2]; exact Nat.zero_le _, by show (sD T.D).ops ≤ _; have := i7.ops; omega, i7.tail, by show T.L.sure ≤ _; have := i7.sure; omega, by show P2.asked ≤ _; rw [r6]; have := i7.asked; omega, by show P2.m ≤ _; rw [r5]; exact Nat.zero_le _⟩, r2, r3, r1, by show (sD T.D).dur.length = _; rw [hb.2.2.2]; exact hS1.dur, hS1.lcn, hS1.lst, hS1.held, hS1.sure480, fun j hj => ?_, fun j hj => ?_, ?_, (fun i s hi => by rw [r7 i] at hi; cases hi), fun i f hf hc' => ?_⟩, m5, ⟨r7, fun i f hf => ?_⟩, w2⟩
    · obtain ⟨f0, h0, -, h1, h2, -⟩ := hHs j f hf
      obtain ⟨hjn, h3⟩ := hfrm j f0 h0
      show _ = ((frameB ((sD T.D).at (P2.at_ + j))).by_, (frameB ((sD T.D).at (P2.at_ + j))).last)
      rw [r1, hat j hjn, h1, h2]
      exact h3
    · obtain ⟨f0, h0, hc0, h1, h2, h3, -⟩ := hHs j f hf
      show f.hi < endOf T.L ∧ _
      rw [h3]
      exact ⟨(i2.ahead j f0 (by rw [i4]; exact h0)).1, fun hh => by rw [hc0] at hh; cases hh⟩
    · have hjn : j < n := by rw [← r2]; exact hj
      show (frameB ((sD T.D).at (P2.at_ + j))).last < T.L.sure ∨ _
      rw [r1, hat j hjn]
      have h1 := i2.wal j (by rw [hS1.pages]; exact hjn)
      rw [hS1.at_] at h1
      exact h1
    · obtain ⟨f0, h0, hc0, h1, h2, h3, h4, h5, h6⟩ := hHs j f hf
      obtain ⟨p1, p2⟩ := h.fit.pool.page j f0 h0
      obtain ⟨p3, p4⟩ := hpo.page j f0 (by rw [i4]; exact h0)
      exact ⟨by rw [r2]; rw [← h.pages]; exact p1, by rw [h1]; exact p2.by_, by rw [h2]; exact p2.last, by rw [h3]; exact p2.hi, by rw [h6]; exact p2.since, by rw [h4]; exact p2.pins, by rw [h5, r6]; exact p4.used⟩
    · obtain ⟨f0, h0, -, -, -, -, -, h5, -⟩ := hHs i f hi
      obtain ⟨g0, k0, -, -, -, -, -, k5, -⟩ := hHs j g hj
      exact h.fit.pool.one i j f0 g0 h0 k0 (by rw [← h5, ← k5]; exact hu)
    · rw [← h.cont j hj]
      have h1 := hS1.cont j hj
      rw [← h.cont j hj] at h1
      rw [← h1]
      unfold Proofs.YtnkcneccolbbdaaGreatDoor.cont
      show (match P2.H j with | some f => (f.by_, f.last) | none => ((frameB ((sD T.D).at (P2.at_ + j))).by_, (frameB ((sD T.D).at (P2.at_ + j))).last)) = _
      rw [r1, hat j hj, hH j, i4, hS1.at_]
      cases S.P.H j with
      | none => rfl
      | some f0 =>
        show ((if j ∈ zs then { f0 with ch := false } else f0).by_, (if j ∈ zs then { f0 with ch := false } else f0).last) = (f0.by_, f0.last)
        split <;> rfl
    · rw [h.pins j hj]
      unfold pinOf
      show _ = (match P2.H j with | some f => f.pins | none => 0)
      rw [hH j]
      cases S.P.H j with
      | none => rfl
      | some f0 =>
        show f0.pins = (if j ∈ zs then { f0 with ch := false } else f0).pins
        split <;> rfl
    · show P2.n = cH P2.H n
      rw [r4, h.cnt]
      refine (cH_congr n fun j hj => ?_).symm
      rw [hH j]
      cases S.P.H j <;> rfl
    · obtain ⟨f0, h0, hc0, -⟩ := hHs i f hf
      rw [hc0] at hc'
      cases hc'
    · obtain ⟨f0, h0, hc0, -⟩ := hHs i f hf
      exact hc0
end
end Go.Proofs.YtnkcneccolbbdaaGreatDoor
