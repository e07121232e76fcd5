/-
  The product of two of the reference's numbers, and which is greater: contracts of times and above.
-/
import Derived.Test.YtmanflfanoddgaaDoorRefP
import Derived.Test.YtmanflfanoddgaaDoorShaO
import Derived.BigQuiet
namespace Go.Proofs.YtmanflfanoddgaaDoor
open Go.RowKit

def ws (l : List Nat) : List Value := l.map fun (n : Nat) => .int .u64 (n : Int)
theorem ws_length (l : List Nat) : (ws l).length = l.length := by simp [ws]
theorem ws_get (l : List Nat) (i : Nat) : (ws l)[i]? = l[i]?.map fun (n : Nat) => .int .u64 (n : Int) := by simp [ws]
theorem ws_one (l : List Nat) : (ws l).all (·.oneCell') = true := by simp [ws, Value.oneCell']
/-- Block g is just this number's parts. -/
def Wde (w : World) (g : Nat) (l : List Nat) : Prop := Rw w g 130 (ws l)
theorem Wde.cell {w : World} {g : Nat} {l : List Nat} (h : Wde w g l) {i n : Nat} (hx : l[i]? = some n) : w.cell? ⟨g, i, none⟩ = some (.int .u64 (n : Int)) := Rw.cell h (by rw [ws_get, hx]; rfl)
theorem Wde.put {w : World} {g : Nat} {l : List Nat} (h : Wde w g l) (i : Nat) {v : Int} (n : Nat) (hv : v = (n : Int)) : Wde (w.setCell ⟨g, i, none⟩ (.int .u64 v)) g (l.set i n) := by
  subst hv
  have := Rw.set h i (.int .u64 (n : Int))
  unfold Wde ws
  rw [List.map_set]
  exact this
theorem heap_alloc3_new (w : World) (o1 o2 o3 : Obj) : (((w.alloc o1).alloc o2).alloc o3).heap[w.heap.size + 2]? = some o3 := by
  have := heap_alloc_new ((w.alloc o1).alloc o2) o3
  simpa using this
theorem heap_alloc4_new (w : World) (o1 o2 o3 o4 : Obj) : ((((w.alloc o1).alloc o2).alloc o3).alloc o4).heap[w.heap.size + 3]? = some o4 := by
  have := heap_alloc_new (((w.alloc o1).alloc o2).alloc o3) o4
  simpa using this
theorem u64_mask (v : Nat) (h : v < 18446744073709551616) : bits .and .u64 (v : Int) 4294967295 = ((v % 4294967296 : Nat) : Int) := by
  have h1 := u64_and_nat v 4294967295 h (by decide)
  have h2 : v &&& 4294967295 = v % 2 ^ 32 := Nat.and_two_pow_sub_one_eq_mod _ 32
  rw [h2] at h1
  exact h1
theorem Parts.at {l : List Nat} (h : Parts l) (i : Nat) (hi : i < 8) : ∃ x, l[i]? = some x ∧ x < 4294967296 := by
  have : i < l.length := by rw [h.len]; exact hi
  exact ⟨_, List.getElem?_eq_getElem this, h.small _ (List.getElem_mem this)⟩

set_option maxRecDepth 20000 in
set_option maxHeartbeats 3200000 in
theorem above_any (a b : List Nat) (ha : Parts a) (hb : Parts b) (w : World) :
    Calls Tryd.prog 80 #[.agg (ws a).toArray, .agg (ws b).toArray] w (Ret w (Is (.bool (decide (num a > num b))))) := by
  go_enter Tryd.func80, Tryd.ntmps80
  go_wp2
  have HA : Hid (Wde ((w.alloc (.cells (ws a).toArray 130)).alloc (.cells (ws b).toArray 130)) w.heap.size a) := heap_alloc2_old w _ _
  have HB : Hid (Wde ((w.alloc (.cells (ws a).toArray 130)).alloc (.cells (ws b).toArray 130)) (w.heap.size + 1) b) := heap_alloc2_new w _ _
  go_loopw [5] (fun i wr => ∃ k : Nat, k ≤ 8 ∧ i = .int .i64 ((k : Int) - 1) ∧ Hid (a.drop k = b.drop k) ∧ Wde wr w.heap.size a ∧ Wde wr (w.heap.size + 1) b ∧ Ext w wr) (fun i _ => (intOf i + 1).toNat)
  case atStart => exact ⟨8, Nat.le_refl _, rfl, by rw [Hid, List.drop_of_length_le (by rw [ha.len]; omega), List.drop_of_length_le (by rw [hb.len]; omega)], HA.out, HB.out, (Ext.alloc w _).trans (Ext.alloc _ _)⟩
  clear HA HB
  case round =>
    obtain ⟨k, hk, rfl, HD, hA, hB, hx⟩ := hrel
    rcases k with _ | k
    · have e : a = b := by simpa using HD.out
      have HE : Hid (decide (num a > num b) = false) := by rw [Hid, e]; simp
      rw [show (((0 : Nat) : Int) - 1) = -1 from rfl]
      go_wp2
      go_ret
      rw [HE.out]
      exact Ret.mk hx rfl
    · rw [show (((k + 1 : Nat) : Int) - 1) = (k : Int) by omega]
      obtain ⟨x, hxk, hx32⟩ := ha.at k (by omega)
      obtain ⟨y, hyk, hy32⟩ := hb.at k (by omega)
      have cx := hA.cell hxk
      have cy := hB.cell hyk
      by_cases hn : x = y
      · have HD2 : Hid (a.drop k = b.drop k) := by
          have h1 := (List.getElem?_eq_some_iff.1 hxk)
          have h2 := (List.getElem?_eq_some_iff.1 hyk)
          obtain ⟨h1, e1⟩ := h1
          obtain ⟨h2, e2⟩ := h2
          rw [Hid, List.drop_eq_getElem_cons h1, List.drop_eq_getElem_cons h2, HD.out, e1, e2, hn]
        subst hn
        clear hxk hyk
        go_wp2
        go_quiet (fail)
        go_wp2
        exact ⟨⟨k, by omega, by go_num, HD2, hA, hB, hx.drewN _⟩, by simp [intOf]⟩
      · have HE := hide (num_above a b ha hb k x y hxk hyk HD.out hn)
        have hne : ¬ (x : Int) = (y : Int) := by omega
        clear hxk hyk
        go_wp2
        go_quiet (fail)
        go_wp2
        go_quiet (fail)
        go_wp2
        go_ret
        rw [HE.out]
        exact Ret.mk ((hx.drewN _).drewN _) rfl

set_option maxRecDepth 20000 in
set_option maxHeartbeats 3200000 in
theorem times_any (a b : List Nat) (ha : Parts a) (hb : Parts b) (w : World) :
    Calls Tryd.prog 79 #[.agg (ws a).toArray, .agg (ws b).toArray] w (Ret w fun _ v => ∃ c, v = .agg (ws c).toArray ∧ Parts c ∧ num c = num a * num b % 4294967296 ^ 8) := by
  go_enter Tryd.func79, Tryd.ntmps79
  go_wp2
  generalize hW : World.alloc (World.alloc (World.alloc (World.alloc w (Obj.cells (ws a).toArray 130)) (Obj.cells (ws b).toArray 130)) (Obj.cells #[Value.int .u64 0, Value.int .u64 0, Value.int .u64 0, Value.int .u64 0, Value.int .u64 0, Value.int .u64 0, Value.int .u64 0, Value.int .u64 0] 130)) (Obj.cells #[Value.int .u64 0, Value.int .u64 0, Value.int .u64 0, Value.int .u64 0, Value.int .u64 0, Value.int .u64 0, Value.int .u64 0, Value.int .u64 0] 130) = w1
  obtain ⟨g, hg⟩ : ∃ g, g = w.heap.size := ⟨_, rfl⟩
  have HA : Hid (Wde w1 g a) := by rw [← hW, hg]; exact Rw.alloc (Rw.alloc (heap_alloc2_old w _ _) _) _
  have HB : Hid (Wde w1 (g + 1) b) := by rw [← hW, hg]; exact Rw.alloc (Rw.alloc (heap_alloc2_new w _ _) _) _
  have HR : Hid (Wde w1 (g + 2) (List.replicate 8 0)) := by rw [← hW, hg]; exact Rw.alloc (heap_alloc3_new w _ _ _) _
  have HC : Hid (Wde w1 (g + 3) (List.replicate 8 0)) := by rw [← hW, hg]; exact heap_alloc4_new w _ _ _ _
  have HX : Hid (Ext w w1) := by rw [← hW]; exact (((Ext.alloc w _).trans (Ext.alloc _ _)).trans (Ext.alloc _ _)).trans (Ext.alloc _ _)
  rw [← hg]
  have hgle : w.heap.size ≤ g := by omega
  clear hW hg
  go_loopw [6] (fun i wr => ∃ (k : Nat) (o : List Nat), k ≤ 8 ∧ i = .int .i64 (k : Int) ∧ Parts o ∧ Hid (num o = num (a.take k) * num b % 4294967296 ^ 8) ∧ Wde wr g a ∧ Wde wr (g + 1) b ∧ Wde wr (g + 2) (List.replicate 8 0) ∧ Wde wr (g + 3) o ∧ Ext w wr) (fun i _ => 8 - (intOf i).toNat)
  case atStart => exact ⟨0, List.replicate 8 0, Nat.zero_le _, rfl, Parts.zeros, hide (by rw [num_zeros, List.take_zero, num, Nat.zero_mul, Nat.zero_mod]), HA.out, HB.out, HR.out, HC.out, HX.out⟩
  clear HA HB HR HC HX
  case round =>
    obtain ⟨i, o, hi, rfl, ho, HO, hA, hB, hR, hC, hx⟩ := hrel
    by_cases hlt : i < 8
    · obtain ⟨x, hxi, hx32⟩ := ha.at i hlt
      obtain ⟨w0, hw0⟩ : ∃ x, x = wr := ⟨_, rfl⟩
      subst hw0
      have HXI := hide hxi
      clear hxi
      go_wp2
      go_loopw [7, 8] (fun ov k wr => ∃ (j over : Nat) (o : List Nat), i + j ≤ 8 ∧ k = .int .i64 (j : Int) ∧ ov = .int .u64 (over : Int) ∧ over < 4294967296 ∧ Parts o ∧ Hid ((num o + over * 4294967296 ^ (i + j)) % 4294967296 ^ 8 = (num (a.take i) * num b % 4294967296 ^ 8 + x * num (b.take j) * 4294967296 ^ i) % 4294967296 ^ 8) ∧ Wde wr g a ∧ Wde wr (g + 1) b ∧ Wde wr (g + 2) (List.replicate 8 0) ∧ Wde wr (g + 3) o ∧ Ext w wr) (fun _ k _ => 8 - (intOf k).toNat)
      case atStart => exact ⟨0, 0, o, by omega, rfl, rfl, by decide, ho, hide (by rw [Nat.zero_mul, Nat.add_zero, HO.out, List.take_zero, num, Nat.mul_zero, Nat.zero_mul, Nat.add_zero, Nat.mod_mod]), hA, hB, hR, hC, hx⟩
      clear HO hA hB hR hC hx ho
      case round =>
        obtain ⟨j, over, o, hj, rfl, rfl, hov, ho, HV, hA, hB, hR, hC, hx⟩ := hrel
        by_cases hlt2 : i + j < 8
        · obtain ⟨y, hyj, hy32⟩ := hb.at j (by omega)
          obtain ⟨z, hzj, hz32⟩ := ho.at (i + j) hlt2
          have cx := hA.cell HXI.out
          have cy := hB.cell hyj
          have cz := hC.cell hzj
          have cf := Rw.frozen hC (i + j)
          obtain ⟨v, hv⟩ : ∃ v, v = x * y + z + over := ⟨_, rfl⟩
          have hxy : x * y ≤ 4294967295 * 4294967295 := Nat.mul_le_mul (by omega) (by omega)
          have HS := hide (mul_step o b _ x y z v (i + j) j i over rfl hzj hyj hv HV.out)
          have hlt3 : (i : Int) + (j : Int) < 8 := by omega
          obtain ⟨m, hm⟩ : ∃ m, m = x * y := ⟨_, rfl⟩
          have em : (x : Int) * (y : Int) = (m : Int) := by rw [hm, Int.natCast_mul]
          rw [← hm] at hv hxy
          have q1 : IntKind.u64.wrap ((x : Int) * (y : Int)) = (m : Int) := by rw [em, IntKind.wrap_u64]; omega
          have q2 : IntKind.u64.wrap ((m : Int) + (z : Int)) = ((m : Int) + (z : Int)) := by rw [IntKind.wrap_u64]; omega
          have q3 : IntKind.u64.wrap ((m : Int) + (z : Int) + (over : Int)) = (v : Int) := by rw [IntKind.wrap_u64]; omega
          have q4 : IntKind.i64.wrap ((i : Int) + (j : Int)) = ((i : Int) + (j : Int)) := by rw [IntKind.wrap_i64]; omega
          have HVL := hide (show v < 18446744073709551616 by omega)
          clear hm em hxy hv hyj hzj HV
          go_wp2
          go_quiet (fail)
          go_wp2
          rw [u64_mask v HVL.out]
          refine ⟨⟨j + 1, v / 4294967296, o.set (i + j) (v % 4294967296), by omega, by go_num, by rw [Int.natCast_ediv]; rfl, by have := HVL.out; omega, ho.set _ _ (Nat.mod_lt _ (by decide)), ?_, ?_, ?_, ?_, ?_, ?_⟩, by simp [intOf]; omega⟩
          · exact HS
          · exact Rw.far (w := wr.drewN nq) hA (by show g ≠ g + 3; omega) _
          · exact Rw.far (w := wr.drewN nq) hB (by show g + 1 ≠ g + 3; omega) _
          · exact Rw.far (w := wr.drewN nq) hR (by show g + 2 ≠ g + 3; omega) _
          · exact Wde.put (w := wr.drewN nq) hC (i + j) (v % 4294967296) rfl
          · exact Below.set (hx.drewN _) (by show w.heap.size ≤ g + 3; omega) _
        · have hge : ¬ (i : Int) + (j : Int) < 8 := by omega
          have HE := hide (mul_row o a b ho hb i x j over (by omega) HXI.out HV.out)
          clear HV
          go_wp2
          exact ⟨⟨i + 1, o, by omega, by go_num, ho, HE, hA, hB, hR, hC, hx⟩, by simp [intOf]; omega⟩
    · have hge : ¬ (i : Int) < 8 := by omega
      have HE : Hid (num o = num a * num b % 4294967296 ^ 8) := by
        have := HO.out
        rw [List.take_of_length_le (by rw [ha.len]; omega)] at this
        exact this
      clear HO
      go_wp2_with (first
        | ((with_reducible show wpList _ _ _ (⟨some 43, .load _ _, _, _, _, _⟩ :: _) _ _);
           refine wpList_load_rw rfl 130 (.tmp 5) rfl _ rfl 130 (ws o) hC 8 126 Tryd.underlying130 (by kernel_rfl) (by rw [ws_length, ho.len]) ?_)
        | ((with_reducible show wpList _ _ _ (⟨none, .store _ (.tmp 4) _, _, _, _, _⟩ :: _) _ _);
           refine wpList_store_rw rfl 130 (.tmp 4) (.tmp 43) rfl _ rfl (ws o) rfl 130 (ws (List.replicate 8 0)) hR 8 (by kernel_rfl) (by rw [ws_length, ho.len]) (by rw [ws_length, ws_length, ho.len]; rfl) (ws_one _) ?_;
           intro w5 hr5 hl5))
      exact ret_rw rfl rfl _ rfl _ _ hr5 8 126 Tryd.underlying130 (by kernel_rfl) (by rw [ws_length, ho.len]) (Ret.mk (hx.laid hl5 (by omega)) ⟨o, rfl, ho, HE.out⟩)
end Go.Proofs.YtmanflfanoddgaaDoor
