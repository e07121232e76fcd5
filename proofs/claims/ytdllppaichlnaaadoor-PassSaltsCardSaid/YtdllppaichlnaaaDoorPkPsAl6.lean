/-
  The walk of PassMakes.
  PassMakes: for every password, salt and number of rounds, of any size that the form reaches, the law answers true and leaves them as they were; digest.start and digest.roundWords hold what the program's text lays.
  An argument that is a secret.
-/
import Derived.Deep.Strs
import Derived.OpenShut
import Derived.Test.YtdllppaichlnaaaDoorPkPsAl0
import Derived.Test.YtdllppaichlnaaaDoorPkPsAl1
import Derived.Test.YtdllppaichlnaaaDoorPkPsAl5
set_option linter.unusedVariables false
set_option linter.unusedSimpArgs false

namespace Go.Proofs.YtdllppaichlnaaaDoor
open Go.RowKit

set_option maxRecDepth 20000 in
set_option maxHeartbeats 1600000 in
theorem makes_big (s : ByteArray) (a r : Int) (w : World) (hbig : 1000 < s.size) (hs : s.size ≤ 140737488351232) (ht : Tab w) :
    Calls Tryd.prog 3 #[.string s, .int .u64 a, .int .i64 r] w (Ret w (Is (.bool true))) := by
  have KA := hide fun W (h : Ext w W) => awake_any W (ht.ext h)
  have hbi : (1000 : Int) < (s.size : Int) := by omega
  clear ht
  go_enter Tryd.func3, Tryd.ntmps3
  go_wp2_with (first
    | (go_at_call 8; (with_reducible refine (KA.out _ hx1).mono ?_); rintro e w2 ⟨v2, rfl, hw2, rfl⟩; have hx2 := hx1.trans hw2)
    | (go_at_call 8; (with_reducible refine (KA.out _ (Ext.refl w)).mono ?_); rintro e w1 ⟨v1, rfl, hx1, rfl⟩))
  go_ret
  exact Ret.mk hx2 rfl
set_option maxRecDepth 20000 in
set_option maxHeartbeats 1600000 in
theorem makes_low (s : ByteArray) (a r : Int) (w : World) (hsm : s.size ≤ 1000) (ha : 0 ≤ a ∧ a < 18446744073709551616) (hb : r < 1) (ht : Tab w) :
    Calls Tryd.prog 3 #[.string s, .int .u64 a, .int .i64 r] w (Ret w (Is (.bool true))) := by
  have KA := hide fun W (h : Ext w W) => awake_any W (ht.ext h)
  have hk : okR r = false := decide_eq_false (by omega)
  have hbi : ¬ (1000 : Int) < (s.size : Int) := by omega
  have KM := hide fun W (h : Ext w W) => (show Calls Tryd.prog 9 #[.string s, .int .u64 a, .int .i64 r] W (Ret W (Is (.tuple #[.agg (sec 0 0 zer32).toArray, .int .i64 1]))) from (by
    have h3 := make_any s a r W ha (by omega) (ht.ext h)
    rw [mkV_no hk, errR_no hk] at h3
    exact h3))
  clear ht hk
  go_enter Tryd.func3, Tryd.ntmps3
  go_wp2_with (first
    | (go_at_call 8; (with_reducible refine (KA.out _ (Ext.refl _)).mono ?_); rintro e w1 ⟨v1, rfl, hx1, rfl⟩; have X1 := hide hx1; clear hx1)
    | (go_at_call 9; (with_reducible refine (KM.out _ X1.out).mono ?_); rintro e w2 ⟨v2, rfl, hx2, rfl⟩; have X2 := hide (X1.out.trans hx2); clear hx2)
    | ((with_reducible show wpList _ _ _ (⟨none, .store _ (.tmp 7) _, _, _, _, _⟩ :: _) _ _);
       refine wpList_store_sec rfl (.tmp 7) (.tmp 22) rfl w2.heap.size rfl 0 0 zer32 rfl 0 0 zer32 (heap_alloc_new w2 _) rfl rfl ?_;
       intro w3 hr3 hl3;
       have X3 := hide ((X2.out.trans (Ext.alloc _ _)).laid hl3 X2.out.size);
       have R3 := hide hr3; clear hr3 hl3)
    | (refine wpList_load_sec rfl (.tmp 7) rfl _ rfl 0 0 zer32 R3.out rfl ?_)
    | (refine wpList_build_sec0 rfl rfl ?_)
    | (refine wpList_eql_sec1 rfl (.tmp 33) (.tmp 34) rfl 0 0 zer32 rfl rfl rfl ?_))
  go_ret
  exact Ret.mk X3.out rfl
set_option maxRecDepth 20000 in
set_option maxHeartbeats 1600000 in
theorem makes_high (s : ByteArray) (a r : Int) (w : World) (hsm : s.size ≤ 1000) (ha : 0 ≤ a ∧ a < 18446744073709551616) (hb : ¬ r < 1) (hb2 : 64 < r) (ht : Tab w) :
    Calls Tryd.prog 3 #[.string s, .int .u64 a, .int .i64 r] w (Ret w (Is (.bool true))) := by
  have KA := hide fun W (h : Ext w W) => awake_any W (ht.ext h)
  have hk : okR r = false := decide_eq_false (by omega)
  have hbi : ¬ (1000 : Int) < (s.size : Int) := by omega
  have KM := hide fun W (h : Ext w W) => (show Calls Tryd.prog 9 #[.string s, .int .u64 a, .int .i64 r] W (Ret W (Is (.tuple #[.agg (sec 0 0 zer32).toArray, .int .i64 1]))) from (by
    have h3 := make_any s a r W ha (by omega) (ht.ext h)
    rw [mkV_no hk, errR_no hk] at h3
    exact h3))
  clear ht hk
  go_enter Tryd.func3, Tryd.ntmps3
  go_wp2_with (first
    | (go_at_call 8; (with_reducible refine (KA.out _ (Ext.refl _)).mono ?_); rintro e w1 ⟨v1, rfl, hx1, rfl⟩; have X1 := hide hx1; clear hx1)
    | (go_at_call 9; (with_reducible refine (KM.out _ X1.out).mono ?_); rintro e w2 ⟨v2, rfl, hx2, rfl⟩; have X2 := hide (X1.out.trans hx2); clear hx2)
    | ((with_reducible show wpList _ _ _ (⟨none, .store _ (.tmp 7) _, _, _, _, _⟩ :: _) _ _);
       refine wpList_store_sec rfl (.tmp 7) (.tmp 22) rfl w2.heap.size rfl 0 0 zer32 rfl 0 0 zer32 (heap_alloc_new w2 _) rfl rfl ?_;
       intro w3 hr3 hl3;
       have X3 := hide ((X2.out.trans (Ext.alloc _ _)).laid hl3 X2.out.size);
       have R3 := hide hr3; clear hr3 hl3)
    | (refine wpList_load_sec rfl (.tmp 7) rfl _ rfl 0 0 zer32 R3.out rfl ?_)
    | (refine wpList_build_sec0 rfl rfl ?_)
    | (refine wpList_eql_sec1 rfl (.tmp 33) (.tmp 34) rfl 0 0 zer32 rfl rfl rfl ?_))
  go_ret
  exact Ret.mk X3.out rfl
set_option maxRecDepth 20000 in
set_option maxHeartbeats 3200000 in
theorem makes_good (s : ByteArray) (a r : Int) (w : World) (hsm : s.size ≤ 1000) (ha : 0 ≤ a ∧ a < 18446744073709551616) (hb : ¬ r < 1) (hb2 : ¬ 64 < r) (ht : Tab w) :
    Calls Tryd.prog 3 #[.string s, .int .u64 a, .int .i64 r] w (Ret w (Is (.bool true))) := by
  have KA := hide fun W (h : Ext w W) => awake_any W (ht.ext h)
  have hk : okR r = true := decide_eq_true (by omega)
  have hbi : ¬ (1000 : Int) < (s.size : Int) := by omega
  have hsl : s.data.toList.length ≤ 1000000 := by rw [show s.data.toList.length = s.size by rw [Array.length_toList]; rfl]; omega
  obtain ⟨o, HO⟩ : ∃ o, Hid (strU s.data.toList (be64 a) r = o) := ⟨_, hide rfl⟩
  have HOL : Hid (o.length = 32) := hide (by rw [← HO.out]; exact strU_len _ _ _)
  obtain ⟨tb, htb⟩ : ∃ tb, Hid (tb = startW ++ roundW) := ⟨_, hide rfl⟩
  have KM := hide fun W (h : Ext w W) => (show Calls Tryd.prog 9 #[.string s, .int .u64 a, .int .i64 r] W (Ret W (Is (.tuple #[.agg (sec a r o).toArray, .int .i64 0]))) from (by
    have h3 := make_any s a r W ha (by omega) (ht.ext h)
    rw [mkV_ok hk, errR_ok hk, HO.out] at h3
    exact h3))
  have KT := hide fun W => (show Calls Tryd.prog 11 #[] W (Ret W (Is (.agg (us tb).toArray))) from (by
    rw [htb.out]
    exact rmake_any W))
  have KU := hide fun W => ruint_any a W ha.1 ha.2
  have KR := hide fun W (A B : Option Addr) (c d : Nat) (hA : Rd W A s.data.toList) (hB : Rd W B (be64 a)) => (show Calls Tryd.prog 10 #[.agg (us tb).toArray, .slice A s.data.toList.length c, .slice B (be64 a).length d, .int .i64 r] W (Ret W (Is (.agg (bs o).toArray))) from (by
    have h3 := rstretch_u tb htb A B c d s.data.toList (be64 a) r W hA hB hsl (by show 8 ≤ 1000000; decide) hk
    rw [HO.out] at h3
    exact h3))
  clear ht hk hsl
  go_enter Tryd.func3, Tryd.ntmps3
  go_upto_region 6 with (first
    | (go_at_call 8; (with_reducible refine (KA.out _ (Ext.refl _)).mono ?_); rintro e w1 ⟨v1, rfl, hx1, rfl⟩; have X1 := hide hx1; clear hx1)
    | (go_at_call 9; (with_reducible refine (KM.out _ X1.out).mono ?_); rintro e w2 ⟨v2, rfl, hx2, rfl⟩; have X2 := hide (X1.out.trans hx2); clear hx2)
    | ((with_reducible show wpList _ _ _ (⟨none, .store _ (.tmp 7) _, _, _, _, _⟩ :: _) _ _);
       refine wpList_store_sec rfl (.tmp 7) (.tmp 22) rfl w2.heap.size rfl a r o rfl 0 0 zer32 (heap_alloc_new w2 _) HOL.out rfl ?_;
       intro w3 hr3 hl3;
       have X3 := hide ((X2.out.trans (Ext.alloc _ _)).laid hl3 X2.out.size);
       have R3 := hide hr3; clear hr3 hl3))
  rename_i hK
  obtain ⟨g7, hg7⟩ : ∃ g, g = w2.heap.size := ⟨_, rfl⟩
  rw [← hg7] at R3 ⊢
  refine wp_region_sp (Nat.le_refl _) [
      Sp.is (.int .i64 0),
      Sp.is (.bool true),
      Sp.is (.bool true),
      Sp.is (.pointer (some ⟨g7, 0, none⟩)),
      Sp.is (.int .u64 a),
      Sp.is (.int .u64 a),
      Sp.is (.bool true),
      Sp.is (.bool true),
      Sp.is (.bool true),
      Sp.is (.pointer (some ⟨g7, 1, none⟩)),
      Sp.is (.int .i64 r),
      Sp.is (.int .i64 r),
      Sp.is (.bool true),
      Sp.is (.bool true),
      Sp.is (.bool true),
      Sp.is (.pointer (some ⟨g7, 2, none⟩)),
      Sp.is (.agg (bs o).toArray),
      Sp.is (.agg (us tb).toArray),
      Sp.is (.string s),
      Sp.bytes s.data.toList,
      Sp.is (.int .u64 a),
      Sp.bytes (be64 a),
      Sp.is (.int .i64 r),
      Sp.is (.agg (bs o).toArray),
      Sp.is (.bool true),
      Sp.is (.bool true),
      Sp.is (.bool true)] (by kernel_rfl) (by kernel_rfl) ?_ ?_
  · refine ⟨?_, ?_, ?_, ?_, ?_, ?_, ?_, ?_, ?_, ?_, ?_, ?_, ?_, ?_, ?_, ?_, ?_, ?_, ?_, ?_, ?_, ?_, ?_, ?_, ?_, ?_, ?_, trivial⟩
    · intro az wz hx hB hk H
      refine .inl ⟨wanted_none rfl, ?_⟩
      refine gives_move rfl ?_
      rw [(ev (show az.tmps[8]? = some (.int .i64 0) from hk 8 rfl))]
      exact ⟨Grw.refl _ _, rfl⟩
    · intro az wz hx hB hk H
      obtain ⟨v37, h37, s37⟩ := H 0 rfl _ rfl 37 rfl
      refine .inl ⟨wanted_none rfl, ?_⟩
      refine gives_eql_int (k := .i64) (0) (0) rfl ?_ ?_ ⟨Grw.refl _ _, congrArg Value.bool (by simp)⟩
      · rw [(ev h37)]
        exact s37
      · rfl
    · intro az wz hx hB hk H
      obtain ⟨v38, h38, s38⟩ := H 1 rfl _ rfl 38 rfl
      refine .inl ⟨wanted_none rfl, ?_⟩
      refine gives_move rfl ?_
      rw [(ev h38)]
      exact ⟨Grw.refl _ _, s38⟩
    · intro az wz hx hB hk H
      obtain ⟨v39, h39, s39⟩ := H 2 rfl _ rfl 39 rfl
      have g0 : az.tmps[39]? = some (.bool true) := by rw [h39]; exact congrArg some s39
      refine .inl ⟨wanted_yes _ rfl rfl rfl g0, ?_⟩
      exact gives_field rfl (by rw [(ev (show az.tmps[7]? = some (.pointer (some ⟨g7, 0, none⟩)) from hk 7 rfl))]) (run_f0 _ _) ⟨Grw.refl _ _, rfl⟩
    · intro az wz hx hB hk H
      obtain ⟨v39, h39, s39⟩ := H 2 rfl _ rfl 39 rfl
      obtain ⟨v40, h40, s40⟩ := H 3 rfl _ rfl 40 rfl
      have g0 : az.tmps[39]? = some (.bool true) := by rw [h39]; exact congrArg some s39
      refine .inl ⟨wanted_yes _ rfl rfl rfl g0, ?_⟩
      exact gives_cell rfl (by rw [ev h40]; exact s40) Tryd.underlying22 ((R3.out.ext hx.below).cell (i := 0) rfl) ⟨Grw.refl _ _, rfl⟩
    · intro az wz hx hB hk H
      obtain ⟨v39, h39, s39⟩ := H 2 rfl _ rfl 39 rfl
      have g0 : az.tmps[39]? = some (.bool true) := by rw [h39]; exact congrArg some s39
      refine .inl ⟨wanted_yes _ rfl rfl rfl g0, ?_⟩
      refine gives_move rfl ?_
      rw [(ev (show az.tmps[1]? = some (.int .u64 a) from hk 1 rfl))]
      exact ⟨Grw.refl _ _, rfl⟩
    · intro az wz hx hB hk H
      obtain ⟨v39, h39, s39⟩ := H 2 rfl _ rfl 39 rfl
      obtain ⟨v41, h41, s41⟩ := H 4 rfl _ rfl 41 rfl
      obtain ⟨v42, h42, s42⟩ := H 5 rfl _ rfl 42 rfl
      have g0 : az.tmps[39]? = some (.bool true) := by rw [h39]; exact congrArg some s39
      refine .inl ⟨wanted_yes _ rfl rfl rfl g0, ?_⟩
      refine gives_eql_int (k := .u64) (a) (a) rfl ?_ ?_ ⟨Grw.refl _ _, congrArg Value.bool (by simp)⟩
      · rw [(ev h41)]
        exact s41
      · rw [(ev h42)]
        exact s42
    · intro az wz hx hB hk H
      obtain ⟨v39, h39, s39⟩ := H 2 rfl _ rfl 39 rfl
      obtain ⟨v43, h43, s43⟩ := H 6 rfl _ rfl 43 rfl
      refine .inl ⟨wanted_none rfl, ?_⟩
      refine gives_pick true rfl ?_ ?_
      · rw [(ev h39)]
        exact s39
      · show Grw _ _ _ ∧ _
        rw [if_pos rfl, (ev h43)]
        exact ⟨Grw.refl _ _, s43⟩
    · intro az wz hx hB hk H
      obtain ⟨v44, h44, s44⟩ := H 7 rfl _ rfl 44 rfl
      refine .inl ⟨wanted_none rfl, ?_⟩
      refine gives_move rfl ?_
      rw [(ev h44)]
      exact ⟨Grw.refl _ _, s44⟩
    · intro az wz hx hB hk H
      obtain ⟨v45, h45, s45⟩ := H 8 rfl _ rfl 45 rfl
      have g0 : az.tmps[45]? = some (.bool true) := by rw [h45]; exact congrArg some s45
      refine .inl ⟨wanted_yes _ rfl rfl rfl g0, ?_⟩
      exact gives_field rfl (by rw [(ev (show az.tmps[7]? = some (.pointer (some ⟨g7, 0, none⟩)) from hk 7 rfl))]) (run_f1 _ _) ⟨Grw.refl _ _, rfl⟩
    · intro az wz hx hB hk H
      obtain ⟨v45, h45, s45⟩ := H 8 rfl _ rfl 45 rfl
      obtain ⟨v46, h46, s46⟩ := H 9 rfl _ rfl 46 rfl
      have g0 : az.tmps[45]? = some (.bool true) := by rw [h45]; exact congrArg some s45
      refine .inl ⟨wanted_yes _ rfl rfl rfl g0, ?_⟩
      exact gives_cell rfl (by rw [ev h46]; exact s46) Tryd.underlying3 ((R3.out.ext hx.below).cell (i := 1) rfl) ⟨Grw.refl _ _, rfl⟩
    · intro az wz hx hB hk H
      obtain ⟨v45, h45, s45⟩ := H 8 rfl _ rfl 45 rfl
      have g0 : az.tmps[45]? = some (.bool true) := by rw [h45]; exact congrArg some s45
      refine .inl ⟨wanted_yes _ rfl rfl rfl g0, ?_⟩
      refine gives_move rfl ?_
      rw [(ev (show az.tmps[2]? = some (.int .i64 r) from hk 2 rfl))]
      exact ⟨Grw.refl _ _, rfl⟩
    · intro az wz hx hB hk H
      obtain ⟨v45, h45, s45⟩ := H 8 rfl _ rfl 45 rfl
      obtain ⟨v47, h47, s47⟩ := H 10 rfl _ rfl 47 rfl
      obtain ⟨v48, h48, s48⟩ := H 11 rfl _ rfl 48 rfl
      have g0 : az.tmps[45]? = some (.bool true) := by rw [h45]; exact congrArg some s45
      refine .inl ⟨wanted_yes _ rfl rfl rfl g0, ?_⟩
      refine gives_eql_int (k := .i64) (r) (r) rfl ?_ ?_ ⟨Grw.refl _ _, congrArg Value.bool (by simp)⟩
      · rw [(ev h47)]
        exact s47
      · rw [(ev h48)]
        exact s48
    · intro az wz hx hB hk H
      obtain ⟨v45, h45, s45⟩ := H 8 rfl _ rfl 45 rfl
      obtain ⟨v49, h49, s49⟩ := H 12 rfl _ rfl 49 rfl
      refine .inl ⟨wanted_none rfl, ?_⟩
      refine gives_pick true rfl ?_ ?_
      · rw [(ev h45)]
        exact s45
      · show Grw _ _ _ ∧ _
        rw [if_pos rfl, (ev h49)]
        exact ⟨Grw.refl _ _, s49⟩
    · intro az wz hx hB hk H
      obtain ⟨v50, h50, s50⟩ := H 13 rfl _ rfl 50 rfl
      refine .inl ⟨wanted_none rfl, ?_⟩
      refine gives_move rfl ?_
      rw [(ev h50)]
      exact ⟨Grw.refl _ _, s50⟩
    · intro az wz hx hB hk H
      obtain ⟨v51, h51, s51⟩ := H 14 rfl _ rfl 51 rfl
      have g0 : az.tmps[51]? = some (.bool true) := by rw [h51]; exact congrArg some s51
      refine .inl ⟨wanted_yes _ rfl rfl rfl g0, ?_⟩
      exact gives_field rfl (by rw [(ev (show az.tmps[7]? = some (.pointer (some ⟨g7, 0, none⟩)) from hk 7 rfl))]) (run_fd _ _) ⟨Grw.refl _ _, rfl⟩
    · intro az wz hx hB hk H
      obtain ⟨v51, h51, s51⟩ := H 14 rfl _ rfl 51 rfl
      obtain ⟨v52, h52, s52⟩ := H 15 rfl _ rfl 52 rfl
      have g0 : az.tmps[51]? = some (.bool true) := by rw [h51]; exact congrArg some s51
      refine .inl ⟨wanted_yes _ rfl rfl rfl g0, ?_⟩
      exact gives_load_dig g7 o rfl (by rw [ev h52]; exact s52) (sec_cells (R3.out.ext hx.below)) HOL.out ⟨Grw.refl _ _, rfl⟩
    · intro az wz hx hB hk H
      obtain ⟨v51, h51, s51⟩ := H 14 rfl _ rfl 51 rfl
      have g0 : az.tmps[51]? = some (.bool true) := by rw [h51]; exact congrArg some s51
      refine .inl ⟨wanted_yes _ rfl rfl rfl g0, ?_⟩
      refine gives_call (args := #[]) rfl Tryd.call11 (by simp) ?_
      exact (KT.out wz).mono fun _ _ h => h.grw hB
    · intro az wz hx hB hk H
      obtain ⟨v51, h51, s51⟩ := H 14 rfl _ rfl 51 rfl
      have g0 : az.tmps[51]? = some (.bool true) := by rw [h51]; exact congrArg some s51
      refine .inl ⟨wanted_yes _ rfl rfl rfl g0, ?_⟩
      refine gives_move rfl ?_
      rw [(ev (show az.tmps[0]? = some (.string s) from hk 0 rfl))]
      exact ⟨Grw.refl _ _, rfl⟩
    · intro az wz hx hB hk H
      obtain ⟨v51, h51, s51⟩ := H 14 rfl _ rfl 51 rfl
      obtain ⟨v55, h55, s55⟩ := H 18 rfl _ rfl 55 rfl
      have g0 : az.tmps[51]? = some (.bool true) := by rw [h51]; exact congrArg some s51
      refine .inl ⟨wanted_yes _ rfl rfl rfl g0, ?_⟩
      exact gives_conv_str s rfl (by rw [ev h55]; exact s55) (fun v w' h1 h2 => ⟨Grw.of_ext h2 hB, h1⟩)
    · intro az wz hx hB hk H
      obtain ⟨v51, h51, s51⟩ := H 14 rfl _ rfl 51 rfl
      have g0 : az.tmps[51]? = some (.bool true) := by rw [h51]; exact congrArg some s51
      refine .inl ⟨wanted_yes _ rfl rfl rfl g0, ?_⟩
      refine gives_move rfl ?_
      rw [(ev (show az.tmps[1]? = some (.int .u64 a) from hk 1 rfl))]
      exact ⟨Grw.refl _ _, rfl⟩
    · intro az wz hx hB hk H
      obtain ⟨v51, h51, s51⟩ := H 14 rfl _ rfl 51 rfl
      obtain ⟨v57, h57, s57⟩ := H 20 rfl _ rfl 57 rfl
      have g0 : az.tmps[51]? = some (.bool true) := by rw [h51]; exact congrArg some s51
      refine .inl ⟨wanted_yes _ rfl rfl rfl g0, ?_⟩
      refine gives_call rfl Tryd.call12 (by simp only [List.map_toArray, List.map_cons, List.map_nil, ev h57]; rw [s57]) ?_
      exact (KU.out wz).mono fun _ _ h => h.grw hB
    · intro az wz hx hB hk H
      obtain ⟨v51, h51, s51⟩ := H 14 rfl _ rfl 51 rfl
      have g0 : az.tmps[51]? = some (.bool true) := by rw [h51]; exact congrArg some s51
      refine .inl ⟨wanted_yes _ rfl rfl rfl g0, ?_⟩
      refine gives_move rfl ?_
      rw [(ev (show az.tmps[2]? = some (.int .i64 r) from hk 2 rfl))]
      exact ⟨Grw.refl _ _, rfl⟩
    · intro az wz hx hB hk H
      obtain ⟨v51, h51, s51⟩ := H 14 rfl _ rfl 51 rfl
      obtain ⟨v54, h54, s54⟩ := H 17 rfl _ rfl 54 rfl
      obtain ⟨v56, h56, s56⟩ := H 19 rfl _ rfl 56 rfl
      obtain ⟨v58, h58, s58⟩ := H 21 rfl _ rfl 58 rfl
      obtain ⟨v59, h59, s59⟩ := H 22 rfl _ rfl 59 rfl
      have g0 : az.tmps[51]? = some (.bool true) := by rw [h51]; exact congrArg some s51
      refine .inl ⟨wanted_yes _ rfl rfl rfl g0, ?_⟩
      obtain ⟨A6, c6, rfl, hc6, hr6⟩ := s56
      obtain ⟨A8, c8, rfl, hc8, hr8⟩ := s58
      refine gives_call rfl Tryd.call10 (by simp only [List.map_toArray, List.map_cons, List.map_nil, ev h54, ev h56, ev h58, ev h59]; rw [s54, s59]) ?_
      exact (KR.out wz A6 A8 c6 c8 hr6 hr8).mono fun _ _ h => h.grw hB
    · intro az wz hx hB hk H
      obtain ⟨v51, h51, s51⟩ := H 14 rfl _ rfl 51 rfl
      obtain ⟨v53, h53, s53⟩ := H 16 rfl _ rfl 53 rfl
      obtain ⟨v60, h60, s60⟩ := H 23 rfl _ rfl 60 rfl
      have g0 : az.tmps[51]? = some (.bool true) := by rw [h51]; exact congrArg some s51
      refine .inl ⟨wanted_yes _ rfl rfl rfl g0, ?_⟩
      exact gives_eql_dig o o rfl HOL.out HOL.out (by rw [ev h53]; exact s53) (by rw [ev h60]; exact s60) ⟨Grw.refl _ _, congrArg Value.bool (beq_self_eq_true o)⟩
    · intro az wz hx hB hk H
      obtain ⟨v51, h51, s51⟩ := H 14 rfl _ rfl 51 rfl
      obtain ⟨v61, h61, s61⟩ := H 24 rfl _ rfl 61 rfl
      refine .inl ⟨wanted_none rfl, ?_⟩
      refine gives_pick true rfl ?_ ?_
      · rw [(ev h51)]
        exact s51
      · show Grw _ _ _ ∧ _
        rw [if_pos rfl, (ev h61)]
        exact ⟨Grw.refl _ _, s61⟩
    · intro az wz hx hB hk H
      obtain ⟨v62, h62, s62⟩ := H 25 rfl _ rfl 62 rfl
      refine .inl ⟨wanted_none rfl, ?_⟩
      refine gives_assign rfl ?_
      rw [(ev h62)]
      exact ⟨Grw.refl _ _, s62⟩
  · intro az wz hx hd hs hv hsame
    obtain ⟨v6, h6, s6⟩ := hv 26 _ 6 rfl rfl
    obtain rfl : v6 = .bool true := s6
    refine hK _ _ ?_
    refine wp_ret ?_
    refine bodyPost_ret (results_tmp rfl _ _ _) hd ?_
    refine ⟨_, rfl, X3.out.trans hx.below, ?_⟩
    simp [Is, h6]
theorem passMakes_walk (s : ByteArray) (a r : Int) (w : World) (hs : s.size ≤ 140737488351232) (ha : 0 ≤ a ∧ a < 18446744073709551616) (ht : Tab w) :
    Calls Tryd.prog 3 #[.string s, .int .u64 a, .int .i64 r] w (Ret w (Is (.bool true))) := by
  by_cases hbig : 1000 < s.size
  · exact makes_big s a r w hbig hs ht
  · by_cases hb : r < 1
    · exact makes_low s a r w (by omega) ha hb ht
    · by_cases hb2 : 64 < r
      · exact makes_high s a r w (by omega) ha hb hb2 ht
      · exact makes_good s a r w (by omega) ha hb hb2 ht
end Go.Proofs.YtdllppaichlnaaaDoor
namespace Go.Proofs.YtdllppaichlnaaaDoor.lawPassMakes
open Go.ChangeShapes Go.WideShapes Go.ChangeAt Go.RowKit
open Go.ChangeMaps (open_string)

set_option maxRecDepth 100000 in
theorem contract (H : Type) (enc : TypeId × Value → H) (W : World) (base : Nat) (args : Array Value) (ds gs : List (DataW H)) (before : List MemPlace)
    (hval : ∀ (j : Nat) t v, Tryd.f3.params[j]? = some t → args[j]? = some v → Value.okWide Tryd.prog W .any base t v)
    (hW : DataW.Whole enc Tryd.prog Tryd.f3.params.toList Rows.passMakesSpec.vars false W args.toList ds gs before) (hz : (DataW.weightsEach Tryd.prog (Tryd.f3.params.toList ++ (OpenSpec.ofChange Rows.passMakesSpec).bare.plain.varTypes Tryd.prog) (ds ++ gs)).all (· ≤ reachBytes) = true) (hL : laidMetH Tryd.prog Rows.passMakesRow.laid W) :
    Calls Tryd.prog 3 args W fun e W' => ∃ v, e = .returned v ∧ Rows.passMakesSpec.post enc Tryd.prog Tryd.f3 false true false false W args v W' := by
  have hW' := hW
  obtain ⟨p, q, hA0, hV, hbe, hfz, hnd⟩ := hW
  have hA : DataW.TrodAll enc Tryd.prog W 0 (fun _ => true) true Tryd.f3.params.toList args.toList ds p := hA0
  obtain ⟨rfl, rfl⟩ := trodVars_none hV
  rw [Tryd.params3] at hA hval
  obtain ⟨v0, vs0, d0, ds0, p0, q0, hg0, hd0, hp0, h0, r0⟩ := trodAll_cons hA
  obtain ⟨v1, vs1, d1, ds1, p1, q1, hg1, hd1, hp1, h1, r1⟩ := trodAll_cons r0
  obtain ⟨v2, vs2, d2, ds2, p2, q2, hg2, hd2, hp2, h2, r2⟩ := trodAll_cons r1
  obtain ⟨e1, e2, e3⟩ := trodAll_nil r2
  have hds : ds = [d0, d1, d2] := by simp [hd0, hd1, hd2, e2]
  obtain rfl : args = #[v0, v1, v2] := by
    have : args.toList = [v0, v1, v2] := by simp [hg0, hg1, hg2, e1]
    exact Array.toList_inj.1 this
  subst hds
  obtain ⟨s0, rfl, hd0, -, hm0⟩ := open_string Tryd.underlying9 (hval 0 9 v0 rfl rfl) h0
  have hb0 : s0.data.toList.length ≤ 140737488351232 := sized_string hz (j := 0) rfl (by rw [hd0]; rfl)
  obtain ⟨n1, rfl, hd1, -, wf1⟩ := open_int Tryd.underlying22 (hval 1 22 v1 rfl rfl) h1
  have hb1 := bounds_u64 wf1
  obtain ⟨n2, rfl, hd2, -, wf2⟩ := open_int Tryd.underlying3 (hval 2 3 v2 rfl rfl) h2
  have hb2 := bounds_i64 wf2
  have ht := tab_of_laid hL
  refine (passMakes_walk s0 n1 n2 W hb0 ⟨hb1.1, by omega⟩ ht).mono fun e W' ⟨v, he, hx, hv⟩ => ?_
  subst he
  have hv' : v = .bool true := hv
  subst hv'
  exact ⟨_, rfl, law_post laidOut hW' rfl (by rw [Tryd.params3]; exact readable_all _ (by kernel_rfl)) (by kernel_rfl) Tryd.underlying4 rfl hx⟩

theorem laid_met (os : Os) : laidMet Tryd.prog Rows.passMakesRow.laid ((laidWorld os).forCall (fun _ _ => 0) ⟨#[], #[Value.string .empty, Value.int .u64 0, Value.int .i64 0], []⟩).memory :=
  laidWorld_met os _
theorem reads (os : Os) {H : Type} (enc : TypeId × Value → H) : ∃ places, DataW.whole enc Tryd.prog ((laidWorld os).forCall (fun _ _ => 0) ⟨#[], #[Value.string .empty, Value.int .u64 0, Value.int .i64 0], []⟩).memory Tryd.f3.params.toList Rows.passMakesSpec.vars false (#[Value.string .empty, Value.int .u64 0, Value.int .i64 0]).toList 8 = some ([.lit (.string []), .lit (.int .u64 0), .lit (.int .i64 0)], [], places) :=
  ⟨[], by kernel_rfl⟩

set_option maxRecDepth 100000 in
theorem lifted (os : Os) (started : os.Started) (H : Type) (enc : TypeId × Value → H) (F : Stop.Interp) :
    ReturnsInHanded {} Tryd.checked os 3 .any ((OpenSpec.ofChange Rows.passMakesSpec).preRow enc Tryd.prog Tryd.f3 Rows.passMakesRow.domain false Rows.passMakesRow.laid) (((OpenSpec.ofChange Rows.passMakesSpec).at F).post enc Tryd.prog Tryd.f3 false true false false) := by
  obtain ⟨places, hx⟩ := reads os enc
  refine returnsInHanded_of_row (C := Tryd.checked) (s := (OpenSpec.ofChange Rows.passMakesSpec)) own started (by kernel_rfl) Tryd.func3
    (witness_row_at (enc := enc) (C := Tryd.checked) false (laidWorld os) #[Value.string .empty, Value.int .u64 0, Value.int .i64 0] (laidWorld_os os) (by kernel_rfl) (by kernel_rfl) (by kernel_rfl)
      (OpenSpec.preRow_of_cond 8 hx (by kernel_rfl) (fun k hk => by cases hk) (by kernel_rfl) (laid_met os))) ?_
  intro W base args ds gs before hval hW _ hcond hz hL _ _
  exact contract H enc W base args ds gs before hval hW hz hL

theorem said : Rows.PassMakesSaid :=
  OpenClaim.holds_of_cond 3 Tryd.f3 rfl rfl rfl rfl rfl rfl rfl ⟨rfl, rfl, rfl, rfl, rfl⟩ rfl rfl rfl rfl rfl (by kernel_rfl) Tryd.func3 (by kernel_rfl)
    (of_decide_eq_true (by kernel_rfl)) (by unfold Func.isWrapper; first | (rw [if_pos (by decide +kernel)]; kernel_rfl) | (rw [if_neg (by decide +kernel)]; exact ⟨rfl, rfl⟩))
    (fun os started H enc _ F => by rw [OpenClaim.pre_eq_preRow]; exact lifted os started H enc F)

theorem plain (f : FuncId) (fn : Func) (hf : Tryd.pinned.checked.prog.funcNamed "muniment/munimentlaw18.PassMakes" = some f) (hfn : Tryd.pinned.checked.prog.funcs[f]? = some fn) :
    Rows.passMakesCard.stood.looks = Tryd.pinned.checked.prog.looks [] ∧ ∀ (j : Nat) t, fn.params[j]? = some t → Tryd.pinned.checked.prog.wantsStandIn t = false := by
  obtain rfl : f = 3 := Option.some.inj ((show Tryd.prog.funcNamed "muniment/munimentlaw18.PassMakes" = some 3 by kernel_rfl).symm.trans hf) |>.symm
  obtain rfl : fn = Tryd.f3 := (Option.some.inj (Tryd.func3.symm.trans hfn)).symm
  refine ⟨by kernel_rfl, fun j t ht => ?_⟩
  have h := (show (Tryd.f3.params.toList.all fun t => !Tryd.prog.wantsStandIn t) = true by kernel_rfl)
  have h2 := List.all_eq_true.1 h t (by simpa using Array.mem_of_getElem? ht)
  have h3 : Tryd.prog.wantsStandIn t = false := by simpa using h2
  exact h3

/-- The card. -/
theorem card : Rows.PassMakesCardSaid :=
  Claim7.holds_tied_plain_at .later [] _ _ _ _ said (fun _ h => by cases h) (by kernel_rfl) (fun _ h => by cases h) passMakes_row_tie rfl ⟨rfl, rfl⟩ (by kernel_rfl) rfl plain (by kernel_rfl)
end Go.Proofs.YtdllppaichlnaaaDoor.lawPassMakes
namespace Go.Proofs.YtdllppaichlnaaaDoor
open Go.ChangeShapes Go.WideShapes Go.ChangeAt Go.RowKit

def secW : Value := .agg (sec 0 0 zer32).toArray
def secDat {H : Type} : DataW H := .agg [.lit (.int .u64 0), .lit (.int .i64 0), .agg (List.replicate 32 (.lit (.int .u8 0)))]
def digOf (v : Option Value) : UInt8 := match v with
  | some (Value.int _ a) => b8 a
  | _ => 0
section
variable {H : Type} {enc : TypeId × Value → H} {W : World}
theorem dig_open {n : Nat} {cs : List Value} {y : DataW H × List MemPlace} (h : DataW.trod enc Tryd.prog W 0 (fun _ => true) true n 24 cs = some y) (hl : cs.length = 32) : ∃ l : List UInt8, l.length = 32 ∧ cs = bs l := by
  obtain ⟨xs, m, _, rfl, _, hxl, hall⟩ := DataW.trod_array Tryd.underlying24 h
  have hc : Tryd.prog.cellsOf 5 = 1 := by kernel_rfl
  have each : ∀ i, i < 32 → ∃ u : UInt8, cs[i]? = some (.int .u8 (u.toNat : Int)) := fun i hi => by
    have h0 := hall i hi
    rw [hc, Nat.mul_one, List.getElem?_eq_getElem (by omega)] at h0
    have hcut : (cs.drop i).take 1 = [cs[i]'(by omega)] := by
      rw [List.drop_eq_getElem_cons (by omega)]
      rfl
    rw [hcut] at h0
    obtain ⟨a, ha, _, wa⟩ := DataW.trod_int Tryd.underlying5 h0
    injection ha with ha
    have hw := bounds_u8 wa
    refine ⟨b8 a, ?_⟩
    rw [b8_toNat hw.1 (by omega), List.getElem?_eq_getElem (by omega), ha]
  refine ⟨(List.range 32).map fun i => digOf cs[i]?, by simp, ?_⟩
  apply List.ext_getElem?
  intro i
  rcases Nat.lt_or_ge i 32 with hi | hi
  · obtain ⟨u, hu⟩ := each i hi
    rw [hu, bs_get, List.getElem?_map, List.getElem?_range hi, Option.map_some, Option.map_some, hu]
    show _ = some (Value.int .u8 ((b8 (u.toNat : Int)).toNat : Int))
    rw [b8_byte]
  · rw [List.getElem?_eq_none (by omega), bs_get, List.getElem?_map, List.getElem?_eq_none (by simpa using hi)]
    rfl
theorem open_secret {base : Nat} {v : Value} {d : DataW H} {ps : List MemPlace} (hval : Value.okWide Tryd.prog W .any base 26 v)
    (h : DataW.Trod enc Tryd.prog W 0 (fun _ => true) true 26 v d ps) : ∃ a r l, v = .agg (sec a r l).toArray ∧ (0 ≤ a ∧ a < 18446744073709551616) ∧ l.length = 32 := by
  obtain ⟨cs, rfl, hsz⟩ := okWide_struct Tryd.underlying26 hval
  obtain ⟨fuel, hf⟩ := h
  obtain ⟨y0, y1, y2, n, -, -, h0, h1, h2⟩ := Deep.trod_struct3 Tryd.underlying26 hf
  have hl : cs.toList.length = 34 := by
    rw [Array.length_toList, hsz]
    kernel_rfl
  obtain ⟨L, hL⟩ : ∃ L, cs.toList = L := ⟨_, rfl⟩
  have ha : cs = L.toArray := by rw [← hL]
  subst ha
  have hl' : L.length = 34 := by simpa using hl
  clear hl hL hsz
  match L, hl' with
  | c0 :: c1 :: rest, hl' =>
    have hr : rest.length = 32 := by simpa using hl'
    have k0 : Tryd.prog.cellsOf 22 = 1 := by kernel_rfl
    have k1 : Tryd.prog.cellsOf 3 = 1 := by kernel_rfl
    have k2 : Tryd.prog.cellsOf 24 = 32 := by kernel_rfl
    simp only [Value.cells, k0, k1, k2] at h0 h1 h2
    have e0 : DataW.trod enc Tryd.prog W 0 (fun _ => true) true n 22 [c0] = some y0 := h0
    have e1 : DataW.trod enc Tryd.prog W 0 (fun _ => true) true n 3 [c1] = some y1 := h1
    have e2 : DataW.trod enc Tryd.prog W 0 (fun _ => true) true n 24 rest = some y2 := by
      rw [← h2]
      congr 1
      exact (List.take_of_length_le (Nat.le_of_eq hr)).symm
    obtain ⟨a, ha, _, wa⟩ := DataW.trod_int Tryd.underlying22 e0
    obtain ⟨b, hb, _, wb⟩ := DataW.trod_int Tryd.underlying3 e1
    obtain ⟨l, hll, hlb⟩ := dig_open e2 hr
    injection ha with ha
    injection hb with hb
    have i1 := bounds_u64 wa
    exact ⟨a, b, l, by rw [ha, hb, hlb]; rfl, ⟨i1.1, by omega⟩, hll⟩
end
end Go.Proofs.YtdllppaichlnaaaDoor
