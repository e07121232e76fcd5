/-
  The sorting of dirty pages by their numbers: slices.SortFunc's contract at this program.
-/
import Derived.Shelf.SlSortCmp.WholeK
import Derived.Shelf.SlSortCmp.NoneTotal
import Derived.Shelf.SlicesG.Cmp
import Derived.Shelf.Small.Bits
import Derived.Shelf.Lay
import Derived.Ground.SlsfProg
import Derived.Ground.SlgcProg
import Derived.Ground.NamesProg
import Derived.Test.YtnkcneccolbbdaaGreatDoorPkPlAl11
set_option linter.unusedVariables false
set_option linter.unusedSimpArgs false

namespace Go.Proofs.YtnkcneccolbbdaaGreatDoor
open Go.Shelf Go.RowKit Go.Lib Go.Sort
shelf_lay_g SlLaysF0.n6 Slsf 6 at Tryz 34 as Tryz.sortD
shelf_lay_g SlLaysC2.n5 Slgc 5 at Tryz 36 as Tryz.cmpD

def encD (r : Nat × Nat) : List Value := [.int .i64 (r.1 : Int), .int .u64 (r.2 : Int)]
def cfD (x y : Nat × Nat) : Int := Lib.compareInt (x.1 : Int) (y.1 : Int)
set_option maxHeartbeats 1000000 in
theorem cmpD_any (x y : Nat × Nat) (W : World) : Calls Tryz.prog 35 #[.agg #[.int .i64 (x.1 : Int), .int .u64 (x.2 : Int)], .agg #[.int .i64 (y.1 : Int), .int .u64 (y.2 : Int)]] W fun e w' => e = .returned (.int .i64 (cfD x y)) ∧ ∃ q os', w' = grow (W.drewN q) os' := by
  have hcon := fun W' => AnyG.cmp_Compare_int Tryz.cmpD (x.1 : Int) (y.1 : Int) W'
  change ∀ W', Calls Tryz.prog 36 _ _ _ at hcon
  unfold cfD
  generalize Lib.compareInt (x.1 : Int) (y.1 : Int) = r at hcon ⊢
  go_enter Tryz.func35, Tryz.ntmps35
  go_wp2_with (go_at_call 36; refine (hcon _).mono ?_; rintro e w' ⟨rfl, rfl⟩)
  go_ret
  exact ⟨rfl, 0, _, by rw [alloc_eq_grow, alloc_eq_grow, grow_grow]; rfl⟩
theorem ltD (x y : Nat × Nat) : ltOf cfD x y = decide (x.1 < y.1) := by
  unfold ltOf cfD Lib.compareInt
  by_cases h1 : x.1 < y.1
  · have h2 : (x.1 : Int) < (y.1 : Int) := by omega
    simp [h1]
  · by_cases h2 : y.1 < x.1
    · simp [h1, h2]
    · simp [h1, h2]
theorem swoD : SWO (ltOf cfD) where
  irrefl x := by rw [ltD]; simp
  trans x y z h1 h2 := by rw [ltD] at *; simp at *; omega
  ntrans x y z h1 h2 := by rw [ltD] at *; simp at *; omega
theorem ownD_holds {w : World} {g cap : Nat} {cur : Array Value} {zs : List (Nat × Nat)} (hg : w.heap[g]? = some (.cells cur 76 (0, 0))) (hn : zs.length ≤ cap) (hs : cur.size = cap * 2) (ht : cur.toList.take (zs.length * 2) = dV zs) : HoldsK encD 2 w g 0 zs.toArray := by
  intro j hj
  rw [size_flatK] at hj
  have hj : j < zs.length * 2 := hj
  have hd : j / 2 < zs.length := by omega
  have hc : (dV zs)[j]? = some ((flatK encD 2 zs.toArray)[j]!) := by
    rw [get_flatK _ _ _ _ hj]
    have hz : zs.toArray[j / 2]! = zs[j / 2] := by simp [hd]
    rw [hz]
    obtain ⟨h1, h2⟩ := dV_get zs (j / 2) _ (List.getElem?_eq_getElem hd)
    rcases Nat.mod_two_eq_zero_or_one j with h | h
    · have e : j / 2 * 2 = j := by omega
      rw [e] at h1
      rw [h1, h]
      rfl
    · have e : j / 2 * 2 + 1 = j := by omega
      rw [e] at h2
      rw [h2, h]
      rfl
  have hcur : cur[j]? = some ((flatK encD 2 zs.toArray)[j]!) := by
    rw [← ht, List.getElem?_take_of_lt hj] at hc
    simpa using hc
  have hR : Rw w g 76 cur.toList := by
    show w.heap[g]? = _
    rw [hg]
  have e0 : 0 + j = j := Nat.zero_add j
  rw [e0]
  exact ⟨hR.cell (i := j) (by simpa using hcur), hR.frozen j⟩
theorem sortC : SortC := by
  intro W B v zs ho hl
  rcases ho.2 with ⟨rfl, h0⟩ | ⟨g, cap, cur, rfl, hb, hg, hnc, hcm, hcs, htk⟩
  · have hz : zs = [] := List.length_eq_zero_iff.1 h0
    subst hz
    refine (AnyF.slices_SortFunc_none Tryz.sortD none 0 (.func (.func 35) #[] #[]) W).mono ?_
    rintro e w' ⟨rfl, rfl⟩
    exact ⟨rfl, ⟨rfl, rfl, rfl, Nat.le_refl _, fun _ _ _ => rfl⟩, none, 0, [], rfl, List.Perm.refl _, List.Pairwise.nil, fun h => absurd rfl h, fun a ha => by cases ha⟩
  · have hH := ownD_holds hg hnc hcs htk
    have hgl : g < W.heap.size := (Array.getElem?_eq_some_iff.1 hg).1
    have eg : ∀ args w, (callFunc 35 args).run Tryz.prog w = .ok (.enter 35 args) w := enters_of Tryz.func35 (by kernel_rfl) rfl
    have hcmp : CmpLays Tryz.prog 35 #[] encD 2 cfD g 0 zs.toArray.size W := fun _ _ _ _ x y => cmpD_any x y _
    refine (AnyQ.slices_SortFunc Tryz.sortD 2 Tryz.isAgg76 Tryz.sizeOf76 encD (fun _ => rfl) (fun x v hv => by simp [encD] at hv; rcases hv with rfl | rfl <;> rfl) cfD swoD 35 #[] g 0 cap zs.toArray W eg hcmp hH hgl (by simp; omega)).mono ?_
    rintro e w' ⟨rfl, d', n, os, hp, hs, rfl⟩
    have hsz : d'.size = zs.length := hp.1
    have hpm : d'.toList.Perm zs := by
      have h3 := hp.2.2
      have hx : zs.toArray.extract 0 zs.toArray.size = zs.toArray := by simp
      have hy : d'.extract 0 zs.toArray.size = d' := by rw [show zs.toArray.size = d'.size from hp.1.symm]; simp
      rw [hx, hy] at h3
      exact h3
    have hlen : d'.toList.length = zs.length := by rw [← hsz]; simp
    have hHold := holdsK_sortWorldK_c encD 2 W g 0 zs.toArray d' n os hH hgl hp.1
    refine ⟨rfl, ⟨rfl, rfl, rfl, size_sortWorldK_c encD 2 W g 0 n d' os, fun k hk hne => ?_⟩, some ⟨g, 0, none⟩, cap, d'.toList, by rw [hlen], hpm, ?_, fun _ => ⟨g, rfl, fun j r hr => ?_⟩, fun a ha => by injection ha with ha; subst ha; rfl⟩
    · unfold sortWorldK putRowK putRow
      rw [heap_grow_old _ _ (by simpa [mapBlock, Sort.ahead] using hk)]
      show ((Sort.ahead W n).heap.modify g _)[k]? = W.heap[k]?
      rw [Array.getElem?_modify, if_neg (fun e => hne (by rw [e]; rfl))]
      rfl
    · rw [List.pairwise_iff_getElem]
      intro i j hi hj hij
      have h1 := hs i j (Nat.zero_le _) hij (by show j < zs.toArray.size; rw [← hp.1]; simpa using hj)
      rw [ltD] at h1
      have hi' : i < d'.size := by simpa using hi
      have hj' : j < d'.size := by simpa using hj
      rw [getElem!_pos d' i hi', getElem!_pos d' j hj'] at h1
      simp only [decide_eq_false_iff_not, Nat.not_lt] at h1
      simpa using h1
    · have hj : j < d'.size := by simpa using (List.getElem?_eq_some_iff.1 hr).1
      have hr' : d'[j]! = r := by
        rw [getElem!_pos d' j hj]
        have := (List.getElem?_eq_some_iff.1 hr).2
        simpa using this
      have h1 := hHold.cell hj (c := 0) (by decide)
      have h2 := hHold.cell hj (c := 1) (by decide)
      rw [hr'] at h1 h2
      rw [Nat.zero_add] at h1 h2
      exact ⟨h1.1, h2.1⟩
end Go.Proofs.YtnkcneccolbbdaaGreatDoor
