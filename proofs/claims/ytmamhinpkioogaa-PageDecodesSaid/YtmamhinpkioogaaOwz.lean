/-
  'append(p, make([]byte, z)...)', p of the call's own and not empty.
-/
import Derived.Test.YtmamhinpkioogaaBlk
import Derived.Lib.AppendZerosOnto
namespace Go.Proofs.Ytmamhinpkioogaa
open Go.RowKit

theorem zeroCells_u8 (n : Nat) : Builtin.zeroCells #[.int .u8 0] n = (bs (List.replicate n 0)).toArray := by
  apply Array.ext'
  apply List.ext_getElem?
  intro i
  simp [Builtin.zeroCells, bs]
  by_cases h : i < n
  · simp [h, Nat.mod_one]
  · simp [h]
theorem run_zeros {w : World} {base : Nat} {v : Value} {l : List UInt8} (hown : Own w base v l) (hl : 0 < l.length) (z : Nat) (hz : l.length + z ≤ 1000000) (hbase : base ≤ w.heap.size) (ty : TypeId) :
    ∃ v' w', (Builtin.append_ #[28, 3] ty #[v, .int .i64 (z : Int)]).run Try.prog w = .ok v' w' ∧ Own w' base v' (l ++ List.replicate z 0) ∧ Below base w w' := by
  obtain ⟨i0, hi, hz0, hz1, hz2⟩ := info_parts info_u8
  have hw : IntKind.i64.wrap (z : Int) = z := by rw [IntKind.wrap_i64]; omega
  have hneg : ¬ ((z : Int) < 0) := by omega
  rcases hown.2 with ⟨_, h0⟩ | ⟨g, cap, cur, rfl, hb, hg, hnc, hcm, hcs, ht⟩
  · omega
  · have h48i : ¬ (281474976710656 < (z : Int) * (i0.bytes : Int)) := by rw [hz2]; omega
    have hold : cur.toList.take l.length = bs l := by rw [← ht]; simp
    by_cases hroom : l.length + z ≤ cap
    · have hst := run_storeCells_at Try.prog g (l.length * i0.size) 5 (bs (List.replicate z 0)) 0 cur w hg (by rw [bs_length, List.length_replicate, hz1, hcs]; omega) (bs_one _)
      simp only [Nat.add_zero] at hst
      rw [hz1, Nat.mul_one, hold, bs_length, List.length_replicate] at hst
      have hlt := (Array.getElem?_eq_some_iff.1 hg).1
      refine ⟨.slice (some ⟨g, 0, none⟩) (l.length + z) cap, w.setRow g (bs l ++ bs (List.replicate z 0) ++ cur.toList.drop (l.length + z)).toArray, ?_, ?_, ⟨rfl, rfl, rfl, by simp [World.setRow], fun k hk => setRow_other w g k _ (by omega)⟩⟩
      · by_cases hz00 : z = 0
        · subst hz00
          have hself : w.setRow g (bs l ++ bs (List.replicate 0 0) ++ cur.toList.drop (l.length + 0)).toArray = w := by
            have e : (bs l ++ bs (List.replicate 0 0) ++ cur.toList.drop (l.length + 0)).toArray = cur := by
              show (bs l ++ [] ++ cur.toList.drop (l.length + 0)).toArray = cur
              rw [List.append_nil, Nat.add_zero, ← hold, List.take_append_drop]
            rw [e]
            exact setRow_self w g cur _ (0, 0) hg
          rw [hself]
          simp only [Nat.add_zero] at hroom
          simp [Builtin.append_, run_underlying Try.underlying28, run_underlying Try.underlying3, sizeOf, typeInfo, hi, asInt, asIntOf, hroom, storeCells, show IntKind.i64.wrap (0 : Int) = 0 from by decide]
        · have hns : ¬ (z * i0.size = 0) := by rw [hz1]; omega
          have hzc := zeroCells_u8 z
          simp [Builtin.append_, run_underlying Try.underlying28, run_underlying Try.underlying3, sizeOf, typeInfo, zeroValue, hi, hz0, asInt, asIntOf, hw, hneg, hns, h48i, hroom, hzc, Addr.add_lit, hst, hz1, Value.cells]
          intro h
          exact absurd h hz00
      · have e : (l ++ List.replicate z 0).length = l.length + z := by simp
        unfold Own
        rw [e, bs_append]
        refine ⟨by rw [List.length_append, bs_length, bs_length, List.length_replicate]; omega, .inr ⟨g, cap, _, rfl, hb, setRow_heap w g cur _ _ (0, 0) hg, hroom, hcm, ?_, ?_⟩⟩
        · rw [List.size_toArray, List.length_append, List.length_append, bs_length, bs_length, List.length_replicate, List.length_drop, show cur.toList.length = cap from by rw [Array.length_toList, hcs, Nat.mul_one]]
          omega
        · show List.take ((l.length + z) * 1) (bs l ++ bs (List.replicate z 0) ++ _) = _
          rw [List.take_left' (by rw [List.length_append, bs_length, bs_length, List.length_replicate]; omega)]
    · have hh : (Builtin.firstCells i0.size l.length (.slice (some ⟨g, 0, none⟩) l.length cap)).run Try.prog w.drew = .ok (bs l).toArray w.drew := by
        have hr : Rd w.drew (some ⟨g, 0, none⟩) l := (Rd.of_own (base := base) (e := 5) (c := cap) hown).ext (Ext.drew _)
        exact run_firstCells_some (P := Try.prog) w.drew i0.size l.length ⟨g, 0, none⟩ l.length cap (bs l) (by rw [bs_length, hz1, Nat.mul_one]) (fun j u hu => hr.cells rfl (by intro e; subst e; simp [bs] at hu) j u hu)
      have hnl := nextslicecap_le (need := l.length + z) (old := cap) (by omega)
      have hrun := Lib.run_append_grow_zeros (P := Try.prog) w 28 3 ty 5 i0 (.int .u8 0) .i64 .i64 Try.underlying28 Try.underlying3 hi hz0 (some ⟨g, 0, none⟩) l.length cap (bs l) hh z (by omega) (by rw [hz1]; decide) (by omega) (by omega) (by rw [hz2]; omega) (by rw [hz2]; omega)
      refine ⟨_, _, hrun, ?_, Below.mono ((Ext.drew w).trans (Ext.alloc _ _)) hbase⟩
      have e : (l ++ List.replicate z 0).length = l.length + z := by simp
      have hge := grownCap_ge w (l.length + z) cap 5
      unfold Own
      rw [e, bs_append]
      refine ⟨by rw [List.length_append, bs_length, bs_length, List.length_replicate]; omega, .inr ⟨w.heap.size, _, _, rfl, hbase, heap_alloc_new w.drew _, hge, grownCap_le_maxLen w _ cap _ (by unfold maxLen; omega), ?_, ?_⟩⟩
      · show (_ ++ Builtin.zeroCells #[.int .u8 0] z ++ Builtin.zeroCells #[.int .u8 0] _ : Array Value).size = _
        rw [zeroCells_u8, zeroCells_u8, Array.size_append, Array.size_append, List.size_toArray, List.size_toArray, List.size_toArray, bs_length, bs_length, bs_length, List.length_replicate, List.length_replicate]
        omega
      · show List.take ((l.length + z) * 1) ((bs l).toArray ++ Builtin.zeroCells #[.int .u8 0] z ++ Builtin.zeroCells #[.int .u8 0] _ : Array Value).toList = _
        rw [zeroCells_u8, zeroCells_u8, Array.toList_append, Array.toList_append]
        rw [List.take_left' (by rw [List.length_append]; show (bs l).length + (bs _).length = _; rw [bs_length, bs_length, List.length_replicate]; omega)]
end Go.Proofs.Ytmamhinpkioogaa
