/-
  Whole blocks: absorbed's contract.
-/
import Derived.Test.YtmanflfanoddgaaDoorShaM
import Derived.Test.YtmanflfanoddgaaDoorGivS
namespace Go.Proofs.YtmanflfanoddgaaDoor
open Go.RowKit

set_option maxRecDepth 20000 in
set_option maxHeartbeats 3200000 in
theorem absorbed_any (s : Sta) (hs : s.ok) (A : Option Addr) (c : Nat) (l : List UInt8) (w : World) (hr : Rd w A l) (hlc : l.length ≤ c) (hl : l.length ≤ 140737488355328) (ht : Tab w) :
    Calls Tryd.prog 99 #[.agg (us s.list).toArray, .slice A l.length c] w (Ret w (Is (.agg (us (absorb s l).list).toArray))) := by
  go_enter Tryd.func99, Tryd.ntmps99
  go_wp2
  go_loopw [9] (fun i wr => ∃ k : Nat, k ≤ l.length / 64 ∧ i = .int .i64 k ∧ Wds wr w.heap.size 28 (absS s l k).list ∧ Wds wr (w.heap.size + 1) 28 (List.replicate 8 0) ∧ Ext w wr) (fun i _ => l.length / 64 - (intOf i).toNat)
  case atStart => exact ⟨0, Nat.zero_le _, rfl, heap_alloc2_old w _ _, heap_alloc2_new w _ _, (Ext.alloc w _).trans (Ext.alloc _ _)⟩
  case round =>
    obtain ⟨k, hk, rfl, hh, hz, hx0⟩ := hrel
    by_cases hlt : k < l.length / 64
    · have hlt2 : (k : Int) < (l.length : Int) / 64 := by omega
      have hkl : 64 * k + 64 ≤ l.length := by omega
      obtain ⟨b, off, rfl, hc⟩ := hr (by intro e; subst e; simp at hkl)
      have hok := absS_ok hs l k
      have HN := hide (show absS s l (k + 1) = mixedS (absS s l k) ((l.drop (64 * k)).take 64) from rfl)
      obtain ⟨st, HST⟩ : ∃ st, Hid (absS s l k = st) := ⟨_, rfl⟩
      rw [HST.out] at hh hok HN
      obtain ⟨nx, HNX⟩ : ∃ nx, Hid (mixedS st ((l.drop (64 * k)).take 64) = nx) := ⟨_, rfl⟩
      rw [HNX.out] at HN
      have HH := hide hh
      have HZ := hide hz
      have KM := hide fun W (h : Ext wr W) => (show Calls Tryd.prog 101 #[.agg (us st.list).toArray, .slice (some ⟨b, off + 64 * k, none⟩) 64 (c - 64 * k)] W (Ret W (Is (.agg (us nx.list).toArray)))
        from HNX.out ▸ mixed_any st hok (some ⟨b, off + 64 * k, none⟩) (c - 64 * k) ((l.drop (64 * k)).take 64) (by simp; omega) W (by
          have h1 := ((hr.ext (hx0.trans h)).drop (64 * k)).take 64
          rw [add_flat] at h1
          exact h1) (by omega) (ht.ext (hx0.trans h)))
      clear hc hh hz hok
      go_wp2
      refine wp_region_last (Nat.le_refl _) [
          Sp.is (.agg (us st.list).toArray),
          Sp.is (.slice (some ⟨b, off, none⟩) l.length c),
          Sp.is (.int .i64 (k : Int)),
          Sp.is (.int .i64 ((k : Int) * 64)),
          Sp.is (.int .i64 (k : Int)),
          Sp.is (.int .i64 ((k : Int) + 1)),
          Sp.is (.int .i64 (((k : Int) + 1) * 64)),
          Sp.is (.slice (some ⟨b, off + 64 * k, none⟩) 64 (c - 64 * k)),
          Sp.is (.agg (us nx.list).toArray)] 9 _ rfl (by kernel_rfl) (by kernel_rfl) (by kernel_rfl) ?_ ?_
      · refine ⟨.inr ?_, .inr ?_, .inr ?_, .inr ?_, .inr ?_, .inr ?_, .inr ?_, .inr ?_, .inr ?_, .inl rfl, trivial⟩
        · intro az wz hx hB hk H
          refine .inl ⟨wanted_none rfl, ?_⟩
          exact gives_load_rw 28 (.tmp 2) rfl w.heap.size (by rw [(ev (show az.tmps[2]? = some (.pointer (some ⟨w.heap.size, 0, none⟩)) from hk 2 rfl))]) 28 (us st.list) (Rw.below HH.out hx.below (Rw.lt HH.out)) 8 27 Tryd.underlying28 (by kernel_rfl) (by rw [us_length, list_length]) ⟨Grw.refl _ _, rfl⟩
        · intro az wz hx hB hk H
          refine .inl ⟨wanted_none rfl, ?_⟩
          refine gives_move rfl ?_
          rw [(ev (show az.tmps[1]? = some (.slice (some ⟨b, off, none⟩) l.length c) from hk 1 rfl))]
          exact ⟨Grw.refl _ _, rfl⟩
        · intro az wz hx hB hk H
          refine .inl ⟨wanted_none rfl, ?_⟩
          refine gives_move rfl ?_
          rw [(ev (show az.tmps[5]? = some (.int .i64 (k : Int)) from hk 5 rfl))]
          exact ⟨Grw.refl _ _, rfl⟩
        · intro az wz hx hB hk H
          obtain ⟨v14, h14, s14⟩ := H 2 rfl _ rfl 14 rfl
          refine .inl ⟨wanted_none rfl, ?_⟩
          exact gives_mul_i64 (k : Int) 64 rfl (by rw [ev h14]; exact s14) rfl (by omega) ⟨Grw.refl _ _, rfl⟩
        · intro az wz hx hB hk H
          refine .inl ⟨wanted_none rfl, ?_⟩
          refine gives_move rfl ?_
          rw [(ev (show az.tmps[5]? = some (.int .i64 (k : Int)) from hk 5 rfl))]
          exact ⟨Grw.refl _ _, rfl⟩
        · intro az wz hx hB hk H
          obtain ⟨v16, h16, s16⟩ := H 4 rfl _ rfl 16 rfl
          refine .inl ⟨wanted_none rfl, ?_⟩
          exact gives_add_i64 (k : Int) 1 rfl (by rw [ev h16]; exact s16) rfl (by omega) ⟨Grw.refl _ _, rfl⟩
        · intro az wz hx hB hk H
          obtain ⟨v17, h17, s17⟩ := H 5 rfl _ rfl 17 rfl
          refine .inl ⟨wanted_none rfl, ?_⟩
          exact gives_mul_i64 ((k : Int) + 1) 64 rfl (by rw [ev h17]; exact s17) rfl (by omega) ⟨Grw.refl _ _, rfl⟩
        · intro az wz hx hB hk H
          obtain ⟨v13, h13, s13⟩ := H 1 rfl _ rfl 13 rfl
          obtain ⟨v15, h15, s15⟩ := H 3 rfl _ rfl 15 rfl
          obtain ⟨v18, h18, s18⟩ := H 6 rfl _ rfl 18 rfl
          refine .inl ⟨wanted_none rfl, ?_⟩
          exact gives_sub (i := 64 * k) (j := 64 * k + 64) rfl Tryd.underlying22 (by kernel_rfl) (by rw [ev h13]; exact s13) (by rw [ev h15, s15]; congr 1; omega) (by rw [ev h18, s18]; congr 1; omega) (by omega) (by omega) (by omega) ⟨Grw.refl _ _, by show _ = _; congr 1; omega⟩
        · intro az wz hx hB hk H
          obtain ⟨v12, h12, s12⟩ := H 0 rfl _ rfl 12 rfl
          obtain ⟨v19, h19, s19⟩ := H 7 rfl _ rfl 19 rfl
          refine .inl ⟨wanted_none rfl, ?_⟩
          refine gives_call rfl Tryd.call101 (by simp only [List.map_toArray, List.map_cons, List.map_nil, ev h12, ev h19]; rw [s12, s19]) ?_
          exact (KM.out wz (Below.mono hx.below (Nat.le_refl _))).mono fun _ _ h => h.grw hB
      · intro az wz hx hd hs hv hsame
        obtain ⟨v12, h12, s12⟩ := hv 0 _ 12 (by decide) rfl rfl
        obtain rfl : v12 = (.agg (us st.list).toArray) := s12
        obtain ⟨v13, h13, s13⟩ := hv 1 _ 13 (by decide) rfl rfl
        obtain rfl : v13 = (.slice (some ⟨b, off, none⟩) l.length c) := s13
        obtain ⟨v14, h14, s14⟩ := hv 2 _ 14 (by decide) rfl rfl
        obtain rfl : v14 = (.int .i64 (k : Int)) := s14
        obtain ⟨v15, h15, s15⟩ := hv 3 _ 15 (by decide) rfl rfl
        obtain rfl : v15 = (.int .i64 ((k : Int) * 64)) := s15
        obtain ⟨v16, h16, s16⟩ := hv 4 _ 16 (by decide) rfl rfl
        obtain rfl : v16 = (.int .i64 (k : Int)) := s16
        obtain ⟨v17, h17, s17⟩ := hv 5 _ 17 (by decide) rfl rfl
        obtain rfl : v17 = (.int .i64 ((k : Int) + 1)) := s17
        obtain ⟨v18, h18, s18⟩ := hv 6 _ 18 (by decide) rfl rfl
        obtain rfl : v18 = (.int .i64 (((k : Int) + 1) * 64)) := s18
        obtain ⟨v19, h19, s19⟩ := hv 7 _ 19 (by decide) rfl rfl
        obtain rfl : v19 = (.slice (some ⟨b, off + 64 * k, none⟩) 64 (c - 64 * k)) := s19
        obtain ⟨v20, h20, s20⟩ := hv 8 _ 20 (by decide) rfl rfl
        obtain rfl : v20 = (.agg (us nx.list).toArray) := s20
        have hfr := frame_last [(12, (.agg (us st.list).toArray)), (13, (.slice (some ⟨b, off, none⟩) l.length c)), (14, (.int .i64 (k : Int))), (15, (.int .i64 ((k : Int) * 64))), (16, (.int .i64 (k : Int))), (17, (.int .i64 ((k : Int) + 1))), (18, (.int .i64 (((k : Int) + 1) * 64))), (19, (.slice (some ⟨b, off + 64 * k, none⟩) 64 (c - 64 * k))), (20, (.agg (us nx.list).toArray))] hs (by kernel_rfl) (by simp only [List.forall_mem_cons, List.not_mem_nil, false_implies, implies_true, and_true]; exact ⟨h12, h13, h14, h15, h16, h17, h18, h19, h20⟩) hsame
        simp only [List.foldl_cons, List.foldl_nil, List.setIfInBounds_toArray, List.set_cons_succ, List.set_cons_zero] at hfr
        obtain ⟨tm, df⟩ := az
        simp only [] at hfr hd
        subst hfr hd
        clear hv hsame hs h12 h13 h14 h15 h16 h17 h18 h19 h20
        refine ⟨wanted_none rfl, ?_⟩
        refine gives_store_rw 28 (.tmp 2) (.tmp 20) rfl w.heap.size rfl (us nx.list) rfl 28 (us st.list) (Rw.below HH.out hx.below (Rw.lt HH.out)) 8 (by kernel_rfl) (by rw [us_length, list_length]) (by rw [us_length, us_length, list_length, list_length]) (us_one _) ?_
        intro w5 hr5 hl5
        have hz5 : Wds w5 (w.heap.size + 1) 28 (List.replicate 8 0) := Wds.other (Rw.below HZ.out hx.below (Rw.lt HZ.out)) hl5 (by omega)
        have hx5 : Ext w w5 := Ext.laid (Below.trans hx0 (Below.mono hx.below hx0.size)) hl5 (Nat.le_refl _)
        clear hx KM HH HZ hl5
        go_wp2
        refine ⟨⟨k + 1, by omega, by go_num, ?_, hz5, hx5⟩, by simp [intOf]; omega⟩
        rw [HN.out]
        exact hr5
    · have hge : ¬ (k : Int) < (l.length : Int) / 64 := by omega
      have HH : Hid (Wds wr w.heap.size 28 (absorb s l).list) := by
        have e : k = l.length / 64 := by omega
        rw [e] at hh
        exact hh
      obtain ⟨nx, HNX⟩ : ∃ nx, Hid (absorb s l = nx) := ⟨_, rfl⟩
      rw [HNX.out] at HH
      have HZ := hide hz
      clear hh hz hk hlt
      go_wp2_with (first
        | ((with_reducible show wpList _ _ _ (⟨some 22, .load _ _, _, _, _, _⟩ :: _) _ _);
           refine wpList_load_rw rfl 28 (.tmp 2) rfl _ rfl 28 (us nx.list) HH.out 8 27 Tryd.underlying28 (by kernel_rfl) (by rw [us_length, list_length]) ?_)
        | ((with_reducible show wpList _ _ _ (⟨none, .store _ (.tmp 4) _, _, _, _, _⟩ :: _) _ _);
           refine wpList_store_rw rfl 28 (.tmp 4) (.tmp 22) rfl _ rfl (us nx.list) rfl 28 (us (List.replicate 8 0)) HZ.out 8 (by kernel_rfl) (by rw [us_length, list_length]) (by rw [us_length, us_length, list_length]; rfl) (us_one _) ?_;
           intro w5 hr5 hl5))
      exact ret_rw rfl rfl _ rfl _ _ hr5 8 27 Tryd.underlying28 (by kernel_rfl) (by rw [us_length, list_length]) (Ret.mk (hx0.laid hl5 (by omega)) (show Value.agg (us nx.list).toArray = Value.agg (us (absorb s l).list).toArray by rw [HNX.out]))
end Go.Proofs.YtmanflfanoddgaaDoor
