/-
  DigestStretches: the walk.
-/
import Derived.Test.YtmanflfanoddgaaDoorShaX
import Derived.Test.YtmanflfanoddgaaDoorArrE
import Derived.Test.YtmanflfanoddgaaDoorRefV
namespace Go.Proofs.YtmanflfanoddgaaDoor
open Go.RowKit

theorem wpList_of_gives {P : Program} {ops : Array Oper} {rest : List Oper} {o : Oper} {a : Act} {w : World} {Q : Exit → Act → World → Prop} {x : Value} (h : gives P o a w fun v w' => v = x ∧ w' = w) (hgd : Region.wanted o (yielded ops a.tmps) = true)
    (hK : wpList P ops Q rest (a.put o.dst x) w) : wpList P ops Q (o :: rest) a w :=
  wpList_step fun K hKK => by
    rw [if_pos hgd]
    exact wp_of_gives h fun v w' ⟨hv, hw⟩ => by subst hv hw; exact hKK _ _ hK

set_option maxRecDepth 20000 in
set_option maxHeartbeats 4000000 in
theorem stretches_walk (A B : Option Addr) (c d : Nat) (pass salt : List UInt8) (r : Int) (w : World) (hA : Rd w A pass) (hB2 : Rd w B salt) (hac : pass.length ≤ c) (hbd : salt.length ≤ d) (hal : pass.length ≤ 140737488355328) (hbl : salt.length ≤ 140737488355328) (hm : -9223372036854775808 ≤ r ∧ r ≤ 9223372036854775807) (ht : Tab w) :
    Calls Tryd.prog 4 #[.slice A pass.length c, .slice B salt.length d, .int .i64 r] w (Ret w (Is (.bool true))) := by
  have KA := hide fun W (h : Ext w W) => awake_any W (ht.ext h)
  obtain ⟨n, HN⟩ : ∃ n, Hid (pass.length = n) := ⟨_, hide rfl⟩
  obtain ⟨m, HM0⟩ : ∃ n, Hid (salt.length = n) := ⟨_, hide rfl⟩
  have hn := hal
  have hm' := hbl
  rw [HN.out] at hn
  rw [HM0.out] at hm'
  have hgd : Tryd.prog.eqGuardType Tryd.prog.depth 24 = false := by kernel_rfl
  by_cases hbig : 2000 < n + m
  · have hbi : (2000 : Int) < (n : Int) + (m : Int) := by omega
    rw [HN.out, HM0.out]
    clear hbig hal hbl hm
    go_enter Tryd.func4, Tryd.ntmps4
    go_wp2_with (first
      | (go_at_call 15; (with_reducible refine (KA.out _ hx1).mono ?_); rintro e w2 ⟨v2, rfl, hw2, rfl⟩; have hx2 := hx1.trans hw2)
      | (go_at_call 15; (with_reducible refine (KA.out _ (Ext.refl w)).mono ?_); rintro e w1 ⟨v1, rfl, hx1, rfl⟩))
    go_ret
    exact Ret.mk hx2 rfl
  · have hbi : ¬ (2000 : Int) < (n : Int) + (m : Int) := by omega
    by_cases hbad : r < 1 ∨ 64 < r
    · have KS := hide fun W => stretch_bad A B c d n m r W hbad
      have hne : ∀ W, (binOp .eql 24 (.agg (bs (List.replicate 32 0)).toArray) (.agg (bs (List.replicate 32 0)).toArray)).run Tryd.prog W = .ok (.bool true) W := fun W => run_eql_bytes W 24 5 (List.replicate 32 0) Tryd.underlying24 Tryd.underlying5 (by kernel_rfl)
      have HNE := hide hne
      rw [HN.out, HM0.out]
      clear hbig hal hbl hm
      have hbu := fun W => run_build (P := Tryd.prog) W 24 #[] _ zeros_agg
      clear hne
      rcases hbad with hb | hb
      · skip
        go_enter Tryd.func4, Tryd.ntmps4
        go_wp2_with (first
          | (go_at_call 15; (with_reducible refine (KA.out _ (Ext.refl w)).mono ?_); rintro e w1 ⟨v1, rfl, hx1, rfl⟩)
          | (go_at_call 19; (with_reducible refine (KS.out _).mono ?_); rintro e w3 ⟨v3, rfl, hw3, rfl⟩; have hx3 := hx1.trans hw3)
          | ((with_reducible show wpList _ _ _ (⟨none, .store _ (.tmp 7) _, _, _, _, _⟩ :: _) _ _);
             refine wpList_store_rw rfl 24 (.tmp 7) (.tmp 29) rfl _ rfl (bs (List.replicate 32 0)) rfl 24 (bs (List.replicate 32 0)) (heap_alloc_new w3 _) 32 (by kernel_rfl) rfl rfl (List.all_eq_true.2 (bs_one _)) ?_;
             intro w5 hr5 hl5;
             have hx5 : Ext w w5 := (hx3.trans (Ext.alloc _ _)).laid hl5 hx3.size;
             have H7 := hide hr5; clear hr5 hl5)
          | ((with_reducible show wpList _ _ _ (⟨some 40, .load _ _, _, _, _, _⟩ :: _) _ _);
             refine wpList_load_wd rfl 24 (.tmp 7) rfl _ rfl 24 (bs (List.replicate 32 0)) H7.out 32 5 Tryd.underlying24 (by kernel_rfl) rfl ?_)
          | ((with_reducible show wpList _ _ _ (⟨some 42, .binOp _ _ _ _ _, _, _, _, _⟩ :: _) _ _);
             refine wpList_of_gives (gives_eql_bytes (R := fun v w' => v = .bool true ∧ w' = w5) (List.replicate 32 0) rfl Tryd.underlying24 Tryd.underlying5 (by kernel_rfl) (by kernel_rfl) rfl rfl ⟨rfl, rfl⟩) rfl ?_))
        go_ret
        exact Ret.mk hx5 rfl
      · have hb1 : ¬ r < 1 := by omega
        go_enter Tryd.func4, Tryd.ntmps4
        go_wp2_with (first
          | (go_at_call 15; (with_reducible refine (KA.out _ (Ext.refl w)).mono ?_); rintro e w1 ⟨v1, rfl, hx1, rfl⟩)
          | (go_at_call 19; (with_reducible refine (KS.out _).mono ?_); rintro e w3 ⟨v3, rfl, hw3, rfl⟩; have hx3 := hx1.trans hw3)
          | ((with_reducible show wpList _ _ _ (⟨none, .store _ (.tmp 7) _, _, _, _, _⟩ :: _) _ _);
             refine wpList_store_rw rfl 24 (.tmp 7) (.tmp 29) rfl _ rfl (bs (List.replicate 32 0)) rfl 24 (bs (List.replicate 32 0)) (heap_alloc_new w3 _) 32 (by kernel_rfl) rfl rfl (List.all_eq_true.2 (bs_one _)) ?_;
             intro w5 hr5 hl5;
             have hx5 : Ext w w5 := (hx3.trans (Ext.alloc _ _)).laid hl5 hx3.size;
             have H7 := hide hr5; clear hr5 hl5)
          | ((with_reducible show wpList _ _ _ (⟨some 40, .load _ _, _, _, _, _⟩ :: _) _ _);
             refine wpList_load_wd rfl 24 (.tmp 7) rfl _ rfl 24 (bs (List.replicate 32 0)) H7.out 32 5 Tryd.underlying24 (by kernel_rfl) rfl ?_)
          | ((with_reducible show wpList _ _ _ (⟨some 42, .binOp _ _ _ _ _, _, _, _, _⟩ :: _) _ _);
             refine wpList_of_gives (gives_eql_bytes (R := fun v w' => v = .bool true ∧ w' = w5) (List.replicate 32 0) rfl Tryd.underlying24 Tryd.underlying5 (by kernel_rfl) (by kernel_rfl) rfl rfl ⟨rfl, rfl⟩) rfl ?_))
        go_ret
        exact Ret.mk hx5 rfl
    · obtain ⟨k, rfl⟩ : ∃ k : Nat, r = (k : Int) + 1 := ⟨(r - 1).toNat, by omega⟩
      have hk : k < 64 := by omega
      obtain ⟨o, HO⟩ : ∃ o, Hid ((stretchS pass salt k).2 = o) := ⟨_, hide rfl⟩
      have HOL : Hid (o.length = 32) := hide (by rw [← HO.out]; exact (stretchS_length pass salt k).2)
      obtain ⟨tb, htb⟩ : ∃ tb, Hid (tb = startW ++ roundW) := ⟨_, hide rfl⟩
      have KS := hide fun W (h : Ext w W) => (show Calls Tryd.prog 19 #[.slice A n c, .slice B m d, .int .i64 ((k : Int) + 1)] W (Ret W (Is (.tuple #[.agg (bs o).toArray, .int .i64 0]))) from (by
        have h3 := stretch_any A B c d pass salt k W (hA.ext h) (hB2.ext h) hac hbd (by have := HN.out; omega) (by have := HM0.out; omega) hk (ht.ext h)
        rw [HO.out, HN.out, HM0.out] at h3
        exact h3))
      have KM := hide fun W => (show Calls Tryd.prog 18 #[] W (Ret W (Is (.agg (us tb).toArray))) from (by
        rw [htb.out]
        exact rmake_any W))
      have KR := hide fun W (h : Ext w W) => (show Calls Tryd.prog 20 #[.agg (us tb).toArray, .slice A n c, .slice B m d, .int .i64 ((k : Int) + 1)] W (Ret W (Is (.agg (bs o).toArray))) from (by
        have h3 := rstretch_any tb htb A B c d pass salt k W (hA.ext h) (hB2.ext h) (by have := HN.out; omega) (by have := HM0.out; omega) hk
        rw [HO.out, HN.out, HM0.out] at h3
        exact h3))
      have hb1 : ¬ (k : Int) + 1 < 1 := by omega
      have hb2 : ¬ 64 < (k : Int) + 1 := by omega
      rw [HN.out, HM0.out]
      clear hbig hal hbl hm hbad
      go_enter Tryd.func4, Tryd.ntmps4
      go_wp2_with (first
        | (go_at_call 15; (with_reducible refine (KA.out _ (Ext.refl w)).mono ?_); rintro e w1 ⟨v1, rfl, hx1, rfl⟩)
        | (go_at_call 19; (with_reducible refine (KS.out _ hx1).mono ?_); rintro e w3 ⟨v3, rfl, hw3, rfl⟩; have hx3 := hx1.trans hw3)
        | ((with_reducible show wpList _ _ _ (⟨none, .store _ (.tmp 7) _, _, _, _, _⟩ :: _) _ _);
           refine wpList_store_rw rfl 24 (.tmp 7) (.tmp 29) rfl _ rfl (bs o) rfl 24 (bs (List.replicate 32 0)) (heap_alloc_new w3 _) 32 (by kernel_rfl) (by rw [bs_length, HOL.out]) (by rw [bs_length, bs_length, HOL.out]; rfl) (List.all_eq_true.2 (bs_one _)) ?_;
           intro w5 hr5 hl5;
           have hx5 : Ext w w5 := (hx3.trans (Ext.alloc _ _)).laid hl5 hx3.size;
           have H7 := hide hr5; clear hr5 hl5))
      rename_i hK
      obtain ⟨g7, hg7⟩ : ∃ g, g = w3.heap.size := ⟨_, rfl⟩
      rw [← hg7] at H7 ⊢
      refine wp_region_sp (Nat.le_refl _) [
          Sp.is (.int .i64 0), Sp.is (.bool true), Sp.is (.bool true), Sp.is (.agg (bs o).toArray), Sp.is (.agg (us tb).toArray), Sp.is (.slice A n c), Sp.is (.slice B m d), Sp.is (.int .i64 ((k : Int) + 1)), Sp.is (.agg (bs o).toArray), Sp.is (.bool true), Sp.is (.bool true), Sp.is (.bool true)] (by kernel_rfl) (by kernel_rfl) ?_ ?_
      · refine ⟨?_, ?_, ?_, ?_, ?_, ?_, ?_, ?_, ?_, ?_, ?_, ?_, trivial⟩
        · intro az wz hx hB hk H
          refine .inl ⟨wanted_none rfl, ?_⟩
          refine gives_move rfl ?_
          rw [(ev (show az.tmps[8]? = some (.int .i64 0) from hk 8 rfl))]
          exact ⟨Grw.refl _ _, rfl⟩
        · intro az wz hx hB hk H
          obtain ⟨v44, h44, s44⟩ := H 0 rfl _ rfl 44 rfl
          refine .inl ⟨wanted_none rfl, ?_⟩
          exact gives_eql_int (k := .i64) 0 0 rfl (by rw [ev h44]; exact s44) rfl ⟨Grw.refl _ _, rfl⟩
        · intro az wz hx hB hk H
          obtain ⟨v45, h45, s45⟩ := H 1 rfl _ rfl 45 rfl
          refine .inl ⟨wanted_none rfl, ?_⟩
          refine gives_move rfl ?_
          rw [ev h45]
          exact ⟨Grw.refl _ _, s45⟩
        · intro az wz hx hB hk H
          obtain ⟨v46, h46, s46⟩ := H 2 rfl _ rfl 46 rfl
          obtain rfl : v46 = .bool true := s46
          refine .inl ⟨wanted_yes _ rfl rfl rfl h46, ?_⟩
          exact gives_load_rw 24 (.tmp 7) rfl g7 (by rw [(ev (show az.tmps[7]? = some (.pointer (some ⟨g7, 0, none⟩)) from hk 7 rfl))]) 24 (bs o) (Rw.below H7.out hx.below (Rw.lt H7.out)) 32 5 Tryd.underlying24 (by kernel_rfl) (by rw [bs_length, HOL.out]) ⟨Grw.refl _ _, rfl⟩
        · intro az wz hx hB hk H
          obtain ⟨v46, h46, s46⟩ := H 2 rfl _ rfl 46 rfl
          obtain rfl : v46 = .bool true := s46
          refine .inl ⟨wanted_yes _ rfl rfl rfl h46, ?_⟩
          refine gives_call (args := #[]) rfl Tryd.call18 (by simp) ?_
          exact (KM.out wz).mono fun _ _ h => h.grw hB
        · intro az wz hx hB hk H
          obtain ⟨v46, h46, s46⟩ := H 2 rfl _ rfl 46 rfl
          obtain rfl : v46 = .bool true := s46
          refine .inl ⟨wanted_yes _ rfl rfl rfl h46, ?_⟩
          refine gives_move rfl ?_
          rw [(ev (show az.tmps[0]? = some (.slice A n c) from hk 0 rfl))]
          exact ⟨Grw.refl _ _, rfl⟩
        · intro az wz hx hB hk H
          obtain ⟨v46, h46, s46⟩ := H 2 rfl _ rfl 46 rfl
          obtain rfl : v46 = .bool true := s46
          refine .inl ⟨wanted_yes _ rfl rfl rfl h46, ?_⟩
          refine gives_move rfl ?_
          rw [(ev (show az.tmps[1]? = some (.slice B m d) from hk 1 rfl))]
          exact ⟨Grw.refl _ _, rfl⟩
        · intro az wz hx hB hk H
          obtain ⟨v46, h46, s46⟩ := H 2 rfl _ rfl 46 rfl
          obtain rfl : v46 = .bool true := s46
          refine .inl ⟨wanted_yes _ rfl rfl rfl h46, ?_⟩
          refine gives_move rfl ?_
          rw [(ev (show az.tmps[2]? = some (.int .i64 ((k : Int) + 1)) from hk 2 rfl))]
          exact ⟨Grw.refl _ _, rfl⟩
        · intro az wz hx hB hk H
          obtain ⟨v46, h46, s46⟩ := H 2 rfl _ rfl 46 rfl
          obtain rfl : v46 = .bool true := s46
          obtain ⟨v48, h48, s48⟩ := H 4 rfl _ rfl 48 rfl
          obtain ⟨v49, h49, s49⟩ := H 5 rfl _ rfl 49 rfl
          obtain ⟨v50, h50, s50⟩ := H 6 rfl _ rfl 50 rfl
          obtain ⟨v51, h51, s51⟩ := H 7 rfl _ rfl 51 rfl
          refine .inl ⟨wanted_yes _ rfl rfl rfl h46, ?_⟩
          refine gives_call rfl Tryd.call20 (by simp only [List.map_toArray, List.map_cons, List.map_nil, ev h48, ev h49, ev h50, ev h51]; rw [s48, s49, s50, s51]) ?_
          exact (KR.out wz (Ext.trans hx5 hx.below)).mono fun _ _ h => h.grw hB
        · intro az wz hx hB hk H
          obtain ⟨v46, h46, s46⟩ := H 2 rfl _ rfl 46 rfl
          obtain rfl : v46 = .bool true := s46
          obtain ⟨v47, h47, s47⟩ := H 3 rfl _ rfl 47 rfl
          obtain ⟨v52, h52, s52⟩ := H 8 rfl _ rfl 52 rfl
          refine .inl ⟨wanted_yes _ rfl rfl rfl h46, ?_⟩
          refine gives_eql_bytes o rfl (by rw [HOL.out]; exact Tryd.underlying24) Tryd.underlying5 (by kernel_rfl) (by kernel_rfl) ?_ ?_ ⟨Grw.refl _ _, rfl⟩
          · rw [ev h47]
            exact s47
          · rw [ev h52]
            exact s52
        · intro az wz hx hB hk H
          obtain ⟨v46, h46, s46⟩ := H 2 rfl _ rfl 46 rfl
          obtain rfl : v46 = .bool true := s46
          obtain ⟨v53, h53, s53⟩ := H 9 rfl _ rfl 53 rfl
          refine .inl ⟨wanted_none rfl, ?_⟩
          refine gives_pick true rfl (by rw [ev h46]) ?_
          simp only [if_true]
          rw [ev h53]
          exact ⟨Grw.refl _ _, s53⟩
        · intro az wz hx hB hk H
          obtain ⟨v54, h54, s54⟩ := H 10 rfl _ rfl 54 rfl
          refine .inl ⟨wanted_none rfl, ?_⟩
          refine gives_assign rfl ?_
          rw [(ev h54)]
          exact ⟨Grw.refl _ _, s54⟩
      · intro az wz hx hd hs hv hsame
        obtain ⟨v6, h6, s6⟩ := hv 11 _ 6 rfl rfl
        obtain rfl : v6 = .bool true := s6
        refine hK _ _ ?_
        refine wp_ret ?_
        refine bodyPost_ret (results_tmp rfl _ _ _) hd ?_
        refine ⟨_, rfl, Ext.trans hx5 hx.below, ?_⟩
        simp [Is, h6]
end Go.Proofs.YtmanflfanoddgaaDoor
