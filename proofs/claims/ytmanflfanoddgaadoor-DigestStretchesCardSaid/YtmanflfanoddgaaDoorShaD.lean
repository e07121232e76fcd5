/-
  The state behind a key's block: padded's contract.
-/
import Derived.Test.YtmanflfanoddgaaDoorShaG
namespace Go.Proofs.YtmanflfanoddgaaDoor
open Go.RowKit

def xorB (p : UInt8) (l : List UInt8) : List UInt8 := l.map (· ^^^ p)
theorem set_part {α : Type} (P S : List α) (k : Nat) (z : α) (hP : P[k]? = some z) (hS : k < S.length) : (P.take k ++ S.drop k).set k z = P.take (k + 1) ++ S.drop (k + 1) := by
  have hk : k < P.length := (List.getElem?_eq_some_iff.1 hP).1
  have hlen : (P.take k).length = k := by simp; omega
  rw [List.set_append_right _ _ (by omega), hlen, Nat.sub_self, List.drop_eq_getElem_cons hS, List.set_cons_zero, List.take_add_one, hP]
  simp
theorem get_part {α : Type} (P S : List α) (k : Nat) (hP : k < P.length) : (P.take k ++ S.drop k)[k]? = S[k]? := by
  have hlen : (P.take k).length = k := by simp; omega
  rw [List.getElem?_append_right (by omega), hlen, Nat.sub_self, List.getElem?_drop]
  rfl
theorem run_all (g : Nat) (w : World) : (Instr.sliceAt 124 (.pointer (some ⟨g, 0, none⟩)) none none none).run Tryd.prog w = .ok (.slice (some ⟨g, 0, none⟩) 64 64) w := by
  simp [go_sem, Tryd.underlying124]
theorem Rw.rd {w : World} {g t : Nat} {l : List UInt8} (h : Rw w g t (bs l)) : Rd w (some ⟨g, 0, none⟩) l := fun _ => ⟨g, 0, rfl, fun j u hu => by rw [Nat.zero_add]; exact Rw.cell h (by rw [bs_get, hu]; rfl)⟩

set_option maxRecDepth 20000 in
set_option maxHeartbeats 1600000 in
theorem padded_any (bl : List UInt8) (hbl : bl.length = 64) (p : UInt8) (w : World) (ht : Tab w) :
    Calls Tryd.prog 77 #[.agg (bs bl).toArray, .int .u8 (p.toNat : Int)] w (Ret w (Is (.agg (us (mixedS start0 (xorB p bl)).list).toArray))) := by
  obtain ⟨nx, HNX⟩ : ∃ nx, Hid (mixedS start0 (xorB p bl) = nx) := ⟨_, rfl⟩
  rw [HNX.out]
  have hp2 := p.toNat_lt
  have hxl : (xorB p bl).length = 64 := by simp [xorB, hbl]
  go_enter Tryd.func77, Tryd.ntmps77
  go_wp2
  go_loopw [6] (fun i wr => ∃ k : Nat, k ≤ 64 ∧ i = .int .i64 k ∧ Rw wr w.heap.size 124 (bs ((xorB p bl).take k ++ bl.drop k)) ∧ Wds wr (w.heap.size + 1) 28 (List.replicate 8 0) ∧ Ext w wr) (fun i _ => 64 - (intOf i).toNat)
  case atStart => exact ⟨0, Nat.zero_le _, rfl, heap_alloc2_old w _ _, heap_alloc2_new w _ _, (Ext.alloc w _).trans (Ext.alloc _ _)⟩
  case round =>
    obtain ⟨k, hk, rfl, hb, hz, hx0⟩ := hrel
    by_cases hlt : k < 64
    · have hlt2 : (k : Int) < 64 := by omega
      obtain ⟨x, hxk⟩ : ∃ x, bl[k]? = some x := ⟨_, List.getElem?_eq_getElem (by omega)⟩
      have hxx : (xorB p bl)[k]? = some (x ^^^ p) := by simp [xorB, hxk]
      have hx2 := x.toNat_lt
      have e1 := u8_xor_nat x.toNat p.toNat (by omega) (by omega)
      have hcx : wr.cell? ⟨w.heap.size, k, none⟩ = some (.int .u8 (x.toNat : Int)) := Rw.cell hb (by rw [bs_get, get_part _ _ _ (by omega), hxk]; rfl)
      have hfx := Rw.frozen hb k
      have HB : Hid (Rw (wr.setCell ⟨w.heap.size, k, none⟩ (.int .u8 ((x.toNat ^^^ p.toNat : Nat) : Int))) w.heap.size 124 (bs ((xorB p bl).take (k + 1) ++ bl.drop (k + 1)))) := by
        have h := Rw.set hb k (.int .u8 ((x.toNat ^^^ p.toNat : Nat) : Int))
        have e : (bs ((xorB p bl).take k ++ bl.drop k)).set k (.int .u8 ((x.toNat ^^^ p.toNat : Nat) : Int)) = bs (((xorB p bl).take k ++ bl.drop k).set k (x ^^^ p)) := by
          unfold bs
          rw [List.map_set, UInt8.toNat_xor]
        rw [e, set_part _ _ _ _ hxx (by omega)] at h
        exact h
      clear hxk hxx
      go_wp2
      exact ⟨⟨k + 1, by omega, by go_num, HB.out, Wds.far hz (by show w.heap.size + 1 ≠ w.heap.size; omega) _, Below.set hx0 (Nat.le_refl _) _⟩, by simp [intOf]; omega⟩
    · have hge : ¬ (k : Int) < 64 := by omega
      have HB : Hid (Rw wr w.heap.size 124 (bs (xorB p bl))) := by
        have e : k = 64 := by omega
        rw [e, List.take_of_length_le (by omega), List.drop_of_length_le (by omega), List.append_nil] at hb
        exact hb
      have HZ := hide hz
      have KM := hide fun W (h : Ext wr W) => (show Calls Tryd.prog 101 #[.agg (us start0.list).toArray, .slice (some ⟨w.heap.size, 0, none⟩) 64 64] W (Ret W (Is (.agg (us nx.list).toArray)))
        from HNX.out ▸ mixed_any start0 start0_ok (some ⟨w.heap.size, 0, none⟩) 64 (xorB p bl) hxl W ((Rw.rd HB.out).ext h) (by omega) (ht.ext (hx0.trans h)))
      clear hb hz hk hlt
      go_wp2
      refine wp_region_last (Nat.le_refl _) [
          Sp.is (.agg (us start0.list).toArray),
          Sp.is (.slice (some ⟨w.heap.size, 0, none⟩) 64 64),
          Sp.is (.agg (us nx.list).toArray)] 3 _ rfl (by kernel_rfl) (by kernel_rfl) (by kernel_rfl) ?_ ?_
      · refine ⟨.inr ?_, .inr ?_, .inr ?_, .inl rfl, trivial⟩
        · intro az wz hx hB hk H
          refine .inl ⟨wanted_none rfl, ?_⟩
          exact gives_load_cells 28 (.global 0) rfl _ rfl (us start0.list) 8 27 Tryd.underlying28 (by kernel_rfl) (by rw [us_length, list_length]) (ht.ext (Below.trans hx0 (Below.mono hx.below hx0.size))).start ⟨Grw.refl _ _, rfl⟩
        · intro az wz hx hB hk H
          refine .inl ⟨wanted_none rfl, ?_⟩
          exact gives_all (n := 64) rfl (by rw [(ev (show az.tmps[2]? = some (.pointer (some ⟨w.heap.size, 0, none⟩)) from hk 2 rfl))]) (run_all _ _) ⟨Grw.refl _ _, rfl⟩
        · intro az wz hx hB hk H
          obtain ⟨v16, h16, s16⟩ := H 0 rfl _ rfl 16 rfl
          obtain ⟨v17, h17, s17⟩ := H 1 rfl _ rfl 17 rfl
          refine .inl ⟨wanted_none rfl, ?_⟩
          refine gives_call rfl Tryd.call101 (by simp only [List.map_toArray, List.map_cons, List.map_nil, ev h16, ev h17]; rw [s16, s17]) ?_
          exact (KM.out wz (Below.mono hx.below (Nat.le_refl _))).mono fun _ _ h => h.grw hB
      · intro az wz hx hd hs hv hsame
        obtain ⟨v16, h16, s16⟩ := hv 0 _ 16 (by decide) rfl rfl
        obtain rfl : v16 = (.agg (us start0.list).toArray) := s16
        obtain ⟨v17, h17, s17⟩ := hv 1 _ 17 (by decide) rfl rfl
        obtain rfl : v17 = (.slice (some ⟨w.heap.size, 0, none⟩) 64 64) := s17
        obtain ⟨v18, h18, s18⟩ := hv 2 _ 18 (by decide) rfl rfl
        obtain rfl : v18 = (.agg (us nx.list).toArray) := s18
        have hfr := frame_last [(16, (.agg (us start0.list).toArray)), (17, (.slice (some ⟨w.heap.size, 0, none⟩) 64 64)), (18, (.agg (us nx.list).toArray))] hs (by kernel_rfl) (by simp only [List.forall_mem_cons, List.not_mem_nil, false_implies, implies_true, and_true]; exact ⟨h16, h17, h18⟩) hsame
        simp only [List.foldl_cons, List.foldl_nil, List.setIfInBounds_toArray, List.set_cons_succ, List.set_cons_zero] at hfr
        obtain ⟨tm, df⟩ := az
        simp only [] at hfr hd
        subst hfr hd
        clear hv hsame hs h16 h17 h18
        refine ⟨wanted_none rfl, ?_⟩
        refine gives_store_rw 28 (.tmp 4) (.tmp 18) rfl (w.heap.size + 1) rfl (us nx.list) rfl 28 (us (List.replicate 8 0)) (Rw.below HZ.out hx.below (Rw.lt HZ.out)) 8 (by kernel_rfl) (by rw [us_length, list_length]) (by rw [us_length, us_length, list_length]; rfl) (us_one _) ?_
        intro w5 hr5 hl5
        have hx5 : Ext w w5 := Ext.laid (Below.trans hx0 (Below.mono hx.below hx0.size)) hl5 (by omega)
        clear hx KM HB HZ hl5
        dsimp only [Act.put]
        go_wp2
        exact ret_rw rfl rfl _ rfl _ _ hr5 8 27 Tryd.underlying28 (by kernel_rfl) (by rw [us_length, list_length]) (Ret.mk hx5 rfl)
end Go.Proofs.YtmanflfanoddgaaDoor
