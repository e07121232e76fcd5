/-
  A key as the states behind its two blocks: keyedBy's contract, from where the block stands.
-/
import Derived.Test.YtmanflfanoddgaaDoorShaD
namespace Go.Proofs.YtmanflfanoddgaaDoor
open Go.RowKit

theorem gives_build2 {P : Program} {o : Oper} {a : Act} {w : World} {R : Value → World → Prop} {t : TypeId} {x y : Operand} {u v : Value} {cs : Array Value} (h : o.op = .build t #[(0, x), (1, y)]) (hx : a.eval x = u) (hy : a.eval y = v) (hb : P.built t [(0, u), (1, v)] = some cs) (hR : R (.agg cs) w) : gives P o a w R := by
  have hrun := run_build (P := P) w t #[(0, u), (1, v)] cs hb
  refine gives_of_run (w' := w) (v := .agg cs) ?_ hR
  unfold execOp
  simp only [h, List.map_toArray, List.map_cons, List.map_nil, hx, hy, Sem.run_bind, hrun, Result.andThen_ok, Sem.run_pure]
theorem built_keyed (s1 s2 : Sta) : Tryd.prog.built 84 [(0, .agg (us s1.list).toArray), (1, .agg (us s2.list).toArray)] = some (us (s1.list ++ s2.list)).toArray := by
  obtain ⟨a, b, c, d, e, f, g, h⟩ := s1
  obtain ⟨a', b', c', d', e', f', g', h'⟩ := s2
  kernel_rfl
theorem splice_key (n : Nat) (key : List UInt8) : splice (bs (List.replicate n 0)) 0 (bs key) = bs (key ++ List.replicate (n - key.length) 0) := by
  unfold splice bs
  simp
/-- The block of a key. -/
def keyB (key : List UInt8) : List UInt8 := if 64 < key.length then sha key ++ List.replicate 32 0 else key ++ List.replicate (64 - key.length) 0
theorem keyB_length (key : List UInt8) : (keyB key).length = 64 := by
  unfold keyB
  split
  · have : (sha key).length = 32 := rfl
    simp [this]
  · simp; omega
def innerS (key : List UInt8) : Sta := mixedS start0 (xorB 54 (keyB key))
def outerS (key : List UInt8) : Sta := mixedS start0 (xorB 92 (keyB key))
set_option maxRecDepth 100000 in
theorem run_copy32 (w : World) (g g2 : Nat) (o : List UInt8) (ho : o.length = 32) (hg : Rw w g 124 (bs (List.replicate 64 0))) (h2 : Rw w g2 24 (bs o)) :
    ∃ w', (Builtin.copy_ #[22, 22] 3 #[.slice (some ⟨g, 0, none⟩) 64 64, .slice (some ⟨g2, 0, none⟩) 32 32]).run Tryd.prog w = .ok (goInt 32) w' ∧ Rw w' g 124 (bs (o ++ List.replicate 32 0)) ∧ Laid1 g w w' := by
  have h1 := run_copy_row (P := Tryd.prog) w 22 22 3 5 g 0 64 64 ⟨g2, 0, none⟩ 32 32 (bs (List.replicate 64 0)).toArray 124 (bs o)
    Tryd.underlying22 (by kernel_rfl) hg (by rw [bs_length, ho]; rfl)
    (fun j v hj => by
      rw [add_flat, Nat.zero_add]
      exact Rw.cell h2 hj)
    (by rw [bs_length, ho]; simp [bs]) (fun v hv => bs_one _ v hv)
  rw [bs_length, ho] at h1
  refine ⟨_, h1, ?_, Laid1.of_row w g _⟩
  have h3 := setRow_heap w g _ ((bs (List.replicate 64 0)).toArray.toList.take 0 ++ bs o ++ (bs (List.replicate 64 0)).toArray.toList.drop (0 + 32)).toArray _ _ hg
  refine h3.trans ?_
  congr 3
  simp [bs]

set_option maxRecDepth 20000 in
set_option maxHeartbeats 1600000 in
theorem keyedBy_any (A : Option Addr) (c : Nat) (key : List UInt8) (w : World) (hr : Rd w A key) (hlc : key.length ≤ c) (hl : key.length ≤ 140737488355328) (ht : Tab w) :
    Calls Tryd.prog 45 #[.slice A key.length c] w (Ret w (Is (.agg (us ((innerS key).list ++ (outerS key).list)).toArray))) := by
  obtain ⟨s1, HS1⟩ : ∃ s1, Hid (innerS key = s1) := ⟨_, rfl⟩
  obtain ⟨s2, HS2⟩ : ∃ s2, Hid (outerS key = s2) := ⟨_, rfl⟩
  obtain ⟨bl, HBL⟩ : ∃ bl, Hid (keyB key = bl) := ⟨_, rfl⟩
  have hbl : bl.length = 64 := by rw [← HBL.out]; exact keyB_length key
  have KP10 := hide fun W (h : Ext w W) => (show Calls Tryd.prog 77 #[.agg (bs bl).toArray, .int .u8 54] W (Ret W (Is (.agg (us s1.list).toArray))) from (by
    have h1 := padded_any bl hbl 54 W (ht.ext h)
    have h2 : mixedS start0 (xorB 54 bl) = s1 := by rw [← HS1.out, ← HBL.out]; rfl
    rw [h2] at h1
    exact h1))
  have KP20 := hide fun W (h : Ext w W) => (show Calls Tryd.prog 77 #[.agg (bs bl).toArray, .int .u8 92] W (Ret W (Is (.agg (us s2.list).toArray))) from (by
    have h1 := padded_any bl hbl 92 W (ht.ext h)
    have h2 : mixedS start0 (xorB 92 bl) = s2 := by rw [← HS2.out, ← HBL.out]; rfl
    rw [h2] at h1
    exact h1))
  rw [HS1.out, HS2.out]
  by_cases hbig : 64 < key.length
  · obtain ⟨o, HO⟩ : ∃ o, Hid (sha key = o) := ⟨_, rfl⟩
    have hol : o.length = 32 := by rw [← HO.out]; rfl
    have HBO : Hid (bl = o ++ List.replicate 32 0) := by show bl = _; rw [← HBL.out, keyB, if_pos hbig, HO.out]
    have KS := hide fun W (h : Ext w W) => (show Calls Tryd.prog 43 #[.slice A key.length c] W (Ret W (Is (.agg (bs o).toArray))) from HO.out ▸ sum_any A c key W (hr.ext h) hlc hl (ht.ext h))
    have hb1 : (64 : Int) < (key.length : Int) := by omega
    go_enter Tryd.func45, Tryd.ntmps45
    go_wp2_with (first
      | (go_at_call 43; refine (KS.out _ ((Ext.alloc w _).trans (Ext.alloc _ _))).mono ?_; rintro e w2 ⟨v2, rfl, hw2, rfl⟩;
         have hx2 : Ext w w2 := ((Ext.alloc w _).trans (Ext.alloc _ _)).trans hw2;
         have HZ2 : Hid (Rw w2 w.heap.size 84 (us (List.replicate 16 0))) := Rw.ext (show Rw _ _ _ _ from heap_alloc2_old w _ _) hw2;
         have HK2 : Hid (Rw w2 (w.heap.size + 1) 124 (bs (List.replicate 64 0))) := Rw.ext (show Rw _ _ _ _ from heap_alloc2_new w _ _) hw2)
      | ((with_reducible show wpList _ _ _ (⟨none, .store _ (.tmp 4) _, _, _, _, _⟩ :: _) _ _);
         refine wpList_store_rw rfl 24 (.tmp 4) (.tmp 9) rfl _ rfl (bs o) rfl 24 (bs (List.replicate 32 0)) (heap_alloc_new w2 _) 32 (by kernel_rfl) (by rw [bs_length, hol]) (by rw [bs_length, bs_length, hol]; rfl) (List.all_eq_true.2 (bs_one _)) ?_;
         intro w3 hr3 hl3;
         have hs2 : w.heap.size + 2 ≤ w2.heap.size := (by have := Rw.lt HK2.out; omega);
         have HZ3 : Hid (Rw w3 w.heap.size 84 (us (List.replicate 16 0))) := Rw.other (Rw.ext HZ2.out (Ext.alloc _ _)) hl3 (by omega);
         have HK3 : Hid (Rw w3 (w.heap.size + 1) 124 (bs (List.replicate 64 0))) := Rw.other (Rw.ext HK2.out (Ext.alloc _ _)) hl3 (by omega);
         have hx3 : Ext w w3 := (hx2.trans (Ext.alloc _ _)).laid hl3 (by omega);
         obtain ⟨wk, hrun, hk4, hl4⟩ := run_copy32 w3.drew (w.heap.size + 1) w2.heap.size o hol HK3.out hr3;
         have HZ : Hid (Rw wk w.heap.size 84 (us (List.replicate 16 0))) := Rw.other (w := w3.drew) HZ3.out hl4 (by omega);
         have HB : Hid (Rw wk (w.heap.size + 1) 124 (bs bl)) := (by rw [HBO.out]; exact hk4);
         have hx0 : Ext w wk := Ext.laid (hx3.trans (Ext.drew _)) hl4 (by omega);
         clear HZ2 HK2 hr3 HZ3 HK3 hk4 hx2 hw2))
    go_region
    clear hrun KS
    have KP1 := hide fun W (h : Ext wk W) => KP10.out W (hx0.trans h)
    have KP2 := hide fun W (h : Ext wk W) => KP20.out W (hx0.trans h)
    go_wp2
    refine wp_region_last (Nat.le_refl _) [
        Sp.is (.agg (bs bl).toArray),
        Sp.is (.agg (us s1.list).toArray),
        Sp.is (.agg (bs bl).toArray),
        Sp.is (.agg (us s2.list).toArray),
        Sp.is (.agg (us (s1.list ++ s2.list)).toArray)] 5 _ rfl (by kernel_rfl) (by kernel_rfl) (by kernel_rfl) ?_ ?_
    · refine ⟨.inr ?_, .inr ?_, .inr ?_, .inr ?_, .inr ?_, .inl rfl, trivial⟩
      · intro az wz hx hB hk H
        refine .inl ⟨wanted_none rfl, ?_⟩
        exact gives_load_rw 124 (.tmp 3) rfl (w.heap.size + 1) (by rw [(ev (show az.tmps[3]? = some (.pointer (some ⟨w.heap.size + 1, 0, none⟩)) from hk 3 rfl))]) 124 (bs bl) (Rw.below HB.out hx.below (Rw.lt HB.out)) 64 5 Tryd.underlying124 (by kernel_rfl) (by rw [bs_length, hbl]) ⟨Grw.refl _ _, rfl⟩
      · intro az wz hx hB hk H
        obtain ⟨v16, h16, s16⟩ := H 0 rfl _ rfl 16 rfl
        refine .inl ⟨wanted_none rfl, ?_⟩
        refine gives_call rfl Tryd.call77 (by simp only [List.map_toArray, List.map_cons, List.map_nil, ev h16]; rw [s16]) ?_
        exact (KP1.out wz (Below.mono hx.below (Nat.le_refl _))).mono fun _ _ h => h.grw hB
      · intro az wz hx hB hk H
        refine .inl ⟨wanted_none rfl, ?_⟩
        exact gives_load_rw 124 (.tmp 3) rfl (w.heap.size + 1) (by rw [(ev (show az.tmps[3]? = some (.pointer (some ⟨w.heap.size + 1, 0, none⟩)) from hk 3 rfl))]) 124 (bs bl) (Rw.below HB.out hx.below (Rw.lt HB.out)) 64 5 Tryd.underlying124 (by kernel_rfl) (by rw [bs_length, hbl]) ⟨Grw.refl _ _, rfl⟩
      · intro az wz hx hB hk H
        obtain ⟨v18, h18, s18⟩ := H 2 rfl _ rfl 18 rfl
        refine .inl ⟨wanted_none rfl, ?_⟩
        refine gives_call rfl Tryd.call77 (by simp only [List.map_toArray, List.map_cons, List.map_nil, ev h18]; rw [s18]) ?_
        exact (KP2.out wz (Below.mono hx.below (Nat.le_refl _))).mono fun _ _ h => h.grw hB
      · intro az wz hx hB hk H
        obtain ⟨v17, h17, s17⟩ := H 1 rfl _ rfl 17 rfl
        obtain ⟨v19, h19, s19⟩ := H 3 rfl _ rfl 19 rfl
        refine .inl ⟨wanted_none rfl, ?_⟩
        refine gives_build2 rfl (by rw [ev h17]; exact s17) (by rw [ev h19]; exact s19) (built_keyed s1 s2) ⟨Grw.refl _ _, rfl⟩
    · intro az wz hx hd hs hv hsame
      obtain ⟨v16, h16, s16⟩ := hv 0 _ 16 (by decide) rfl rfl
      obtain rfl : v16 = (.agg (bs bl).toArray) := s16
      obtain ⟨v17, h17, s17⟩ := hv 1 _ 17 (by decide) rfl rfl
      obtain rfl : v17 = (.agg (us s1.list).toArray) := s17
      obtain ⟨v18, h18, s18⟩ := hv 2 _ 18 (by decide) rfl rfl
      obtain rfl : v18 = (.agg (bs bl).toArray) := s18
      obtain ⟨v19, h19, s19⟩ := hv 3 _ 19 (by decide) rfl rfl
      obtain rfl : v19 = (.agg (us s2.list).toArray) := s19
      obtain ⟨v20, h20, s20⟩ := hv 4 _ 20 (by decide) rfl rfl
      obtain rfl : v20 = (.agg (us (s1.list ++ s2.list)).toArray) := s20
      have hfr := frame_last [(16, (.agg (bs bl).toArray)), (17, (.agg (us s1.list).toArray)), (18, (.agg (bs bl).toArray)), (19, (.agg (us s2.list).toArray)), (20, (.agg (us (s1.list ++ s2.list)).toArray))] hs (by kernel_rfl) (by simp only [List.forall_mem_cons, List.not_mem_nil, false_implies, implies_true, and_true]; exact ⟨h16, h17, h18, h19, h20⟩) hsame
      simp only [List.foldl_cons, List.foldl_nil, List.setIfInBounds_toArray, List.set_cons_succ, List.set_cons_zero] at hfr
      obtain ⟨tm, df⟩ := az
      simp only [] at hfr hd
      subst hfr hd
      clear hv hsame hs h16 h17 h18 h19 h20
      refine ⟨wanted_none rfl, ?_⟩
      refine gives_store_rw 84 (.tmp 2) (.tmp 20) rfl w.heap.size rfl (us (s1.list ++ s2.list)) rfl 84 (us (List.replicate 16 0)) (Rw.below HZ.out hx.below (Rw.lt HZ.out)) 16 (by kernel_rfl) (by rw [us_length, List.length_append, list_length, list_length]) (by rw [us_length, us_length, List.length_append, list_length, list_length]; rfl) (us_one _) ?_
      intro w5 hr5 hl5
      have hx5 : Ext w w5 := Ext.laid (Below.trans hx0 (Below.mono hx.below hx0.size)) hl5 (by omega)
      clear hx KP1 KP2 KP10 KP20 HB HZ hl5
      dsimp only [Act.put]
      go_wp2
      refine bodyPost_ret (results_cell_row rfl _ w5 w.heap.size _ _ (0, 0) _ rfl hr5 Tryd.underlying84 rfl (by kernel_rfl)) rfl ?_
      exact Ret.mk hx5 rfl
  · have hb1 : ¬ (64 : Int) < (key.length : Int) := by omega
    have HBO : Hid (bl = key ++ List.replicate (64 - key.length) 0) := by show bl = _; rw [← HBL.out, keyB, if_neg hbig]
    have hsrc : ∀ W, Ext w W → 0 < (bs key).length → (some ⟨w.heap.size + 1, 0, none⟩ : Option Addr) = some ⟨w.heap.size + 1, 0, none⟩ ∧ ∃ ad, A = some ad ∧ ∀ j v, (bs key)[j]? = some v → W.cell? (ad.add j) = some v := fun W h hp => by
      have hne : key ≠ [] := by intro e; rw [e] at hp; simp [bs] at hp
      have hr2 := hr.ext h
      obtain ⟨b, o2, hA, hc⟩ := hr2 hne
      exact ⟨rfl, _, hA, hr2.cells hA hne⟩
    have HSRC := hide hsrc
    clear hsrc
    go_enter Tryd.func45, Tryd.ntmps45
    go_wp2_with (first
      | ((with_reducible show wpList _ _ _ (⟨some 15, .call _, _, _, _, _⟩ :: _) _ _);
         refine wpList_copy_splice rfl (.tmp 13) (.tmp 14) 22 22 rfl 5 Tryd.underlying22 info_size (some ⟨w.heap.size + 1, 0, none⟩) A 64 64 key.length c rfl rfl (w.heap.size + 1) 0 (bs (List.replicate 64 0)) 124 (heap_alloc2_new w _ _) (bs key) (by rw [bs_length]; exact (Nat.min_eq_left (by omega)).symm) (HSRC.out _ ((Ext.alloc w _).trans (Ext.alloc _ _))) (by rw [bs_length, bs_length, List.length_replicate]; omega) (bs_one _) (w.heap.size + 1) _ (Below.refl _ _) (Nat.le_refl _) ?_;
         intro wk hk hbk))
    have HB : Hid (Rw wk (w.heap.size + 1) 124 (bs bl)) := by
      have h1 := hk.out
      have e : splice (bs (List.replicate 64 0)) 0 (bs key) = bs bl := by
        rw [HBO.out]
        exact splice_key 64 key
      rw [e] at h1
      exact h1
    have HZ : Hid (Rw wk w.heap.size 84 (us (List.replicate 16 0))) := Rw.below (show Rw _ _ _ _ from heap_alloc2_old w _ _) hbk (by omega)
    have hx0 : Ext w wk := Below.trans ((Ext.alloc w _).trans (Ext.alloc _ _)) (Below.mono hbk (by omega))
    clear hk hbk
    have KP1 := hide fun W (h : Ext wk W) => KP10.out W (hx0.trans h)
    have KP2 := hide fun W (h : Ext wk W) => KP20.out W (hx0.trans h)
    go_wp2
    refine wp_region_last (Nat.le_refl _) [
        Sp.is (.agg (bs bl).toArray),
        Sp.is (.agg (us s1.list).toArray),
        Sp.is (.agg (bs bl).toArray),
        Sp.is (.agg (us s2.list).toArray),
        Sp.is (.agg (us (s1.list ++ s2.list)).toArray)] 5 _ rfl (by kernel_rfl) (by kernel_rfl) (by kernel_rfl) ?_ ?_
    · refine ⟨.inr ?_, .inr ?_, .inr ?_, .inr ?_, .inr ?_, .inl rfl, trivial⟩
      · intro az wz hx hB hk H
        refine .inl ⟨wanted_none rfl, ?_⟩
        exact gives_load_rw 124 (.tmp 3) rfl (w.heap.size + 1) (by rw [(ev (show az.tmps[3]? = some (.pointer (some ⟨w.heap.size + 1, 0, none⟩)) from hk 3 rfl))]) 124 (bs bl) (Rw.below HB.out hx.below (Rw.lt HB.out)) 64 5 Tryd.underlying124 (by kernel_rfl) (by rw [bs_length, hbl]) ⟨Grw.refl _ _, rfl⟩
      · intro az wz hx hB hk H
        obtain ⟨v16, h16, s16⟩ := H 0 rfl _ rfl 16 rfl
        refine .inl ⟨wanted_none rfl, ?_⟩
        refine gives_call rfl Tryd.call77 (by simp only [List.map_toArray, List.map_cons, List.map_nil, ev h16]; rw [s16]) ?_
        exact (KP1.out wz (Below.mono hx.below (Nat.le_refl _))).mono fun _ _ h => h.grw hB
      · intro az wz hx hB hk H
        refine .inl ⟨wanted_none rfl, ?_⟩
        exact gives_load_rw 124 (.tmp 3) rfl (w.heap.size + 1) (by rw [(ev (show az.tmps[3]? = some (.pointer (some ⟨w.heap.size + 1, 0, none⟩)) from hk 3 rfl))]) 124 (bs bl) (Rw.below HB.out hx.below (Rw.lt HB.out)) 64 5 Tryd.underlying124 (by kernel_rfl) (by rw [bs_length, hbl]) ⟨Grw.refl _ _, rfl⟩
      · intro az wz hx hB hk H
        obtain ⟨v18, h18, s18⟩ := H 2 rfl _ rfl 18 rfl
        refine .inl ⟨wanted_none rfl, ?_⟩
        refine gives_call rfl Tryd.call77 (by simp only [List.map_toArray, List.map_cons, List.map_nil, ev h18]; rw [s18]) ?_
        exact (KP2.out wz (Below.mono hx.below (Nat.le_refl _))).mono fun _ _ h => h.grw hB
      · intro az wz hx hB hk H
        obtain ⟨v17, h17, s17⟩ := H 1 rfl _ rfl 17 rfl
        obtain ⟨v19, h19, s19⟩ := H 3 rfl _ rfl 19 rfl
        refine .inl ⟨wanted_none rfl, ?_⟩
        refine gives_build2 rfl (by rw [ev h17]; exact s17) (by rw [ev h19]; exact s19) (built_keyed s1 s2) ⟨Grw.refl _ _, rfl⟩
    · intro az wz hx hd hs hv hsame
      obtain ⟨v16, h16, s16⟩ := hv 0 _ 16 (by decide) rfl rfl
      obtain rfl : v16 = (.agg (bs bl).toArray) := s16
      obtain ⟨v17, h17, s17⟩ := hv 1 _ 17 (by decide) rfl rfl
      obtain rfl : v17 = (.agg (us s1.list).toArray) := s17
      obtain ⟨v18, h18, s18⟩ := hv 2 _ 18 (by decide) rfl rfl
      obtain rfl : v18 = (.agg (bs bl).toArray) := s18
      obtain ⟨v19, h19, s19⟩ := hv 3 _ 19 (by decide) rfl rfl
      obtain rfl : v19 = (.agg (us s2.list).toArray) := s19
      obtain ⟨v20, h20, s20⟩ := hv 4 _ 20 (by decide) rfl rfl
      obtain rfl : v20 = (.agg (us (s1.list ++ s2.list)).toArray) := s20
      have hfr := frame_last [(16, (.agg (bs bl).toArray)), (17, (.agg (us s1.list).toArray)), (18, (.agg (bs bl).toArray)), (19, (.agg (us s2.list).toArray)), (20, (.agg (us (s1.list ++ s2.list)).toArray))] hs (by kernel_rfl) (by simp only [List.forall_mem_cons, List.not_mem_nil, false_implies, implies_true, and_true]; exact ⟨h16, h17, h18, h19, h20⟩) hsame
      simp only [List.foldl_cons, List.foldl_nil, List.setIfInBounds_toArray, List.set_cons_succ, List.set_cons_zero] at hfr
      obtain ⟨tm, df⟩ := az
      simp only [] at hfr hd
      subst hfr hd
      clear hv hsame hs h16 h17 h18 h19 h20
      refine ⟨wanted_none rfl, ?_⟩
      refine gives_store_rw 84 (.tmp 2) (.tmp 20) rfl w.heap.size rfl (us (s1.list ++ s2.list)) rfl 84 (us (List.replicate 16 0)) (Rw.below HZ.out hx.below (Rw.lt HZ.out)) 16 (by kernel_rfl) (by rw [us_length, List.length_append, list_length, list_length]) (by rw [us_length, us_length, List.length_append, list_length, list_length]; rfl) (us_one _) ?_
      intro w5 hr5 hl5
      have hx5 : Ext w w5 := Ext.laid (Below.trans hx0 (Below.mono hx.below hx0.size)) hl5 (by omega)
      clear hx KP1 KP2 KP10 KP20 HB HZ hl5
      dsimp only [Act.put]
      go_wp2
      refine bodyPost_ret (results_cell_row rfl _ w5 w.heap.size _ _ (0, 0) _ rfl hr5 Tryd.underlying84 rfl (by kernel_rfl)) rfl ?_
      exact Ret.mk hx5 rfl
end Go.Proofs.YtmanflfanoddgaaDoor
