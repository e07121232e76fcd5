/-
  The walk of PassChecks.
-/
import Derived.Test.YtdllppaichlnaaaDoorPkPsAl5
set_option linter.unusedVariables false
set_option linter.unusedSimpArgs false

namespace Go.Proofs.YtdllppaichlnaaaDoor
open Go.RowKit

theorem gives_leq_int {P : Program} {o : Oper} {a : Act} {w : World} {R : Value → World → Prop} {xt yt : Nat} {x y : Operand} {k : IntKind} (m n : Int) (h : o.op = .binOp .leq xt x y yt) (hx : a.eval x = .int k m) (hy : a.eval y = .int k n) (hR : R (.bool (decide (m ≤ n))) w) : gives P o a w R :=
  gives_bin h hx hy (by simp [go_sem]) (by simp [go_sem]) hR
set_option maxRecDepth 20000 in
set_option maxHeartbeats 1600000 in
theorem checks_big (p q : ByteArray) (a r : Int) (d : List UInt8) (n : Int) (w : World) (hbig : 1000 < p.size + q.size) (hp : p.size ≤ 140737488351232) (hq : q.size ≤ 140737488351232) (ht : Tab w) :
    Calls Tryd.prog 4 #[.string p, .string q, .agg (sec a r d).toArray, .int .i64 n] w (Ret w (Is (.bool true))) := by
  have KA := hide fun W (h : Ext w W) => awake_any W (ht.ext h)
  have hbi : (1000 : Int) < (p.size : Int) + (q.size : Int) := by omega
  have hp0 : (p.size : Int) ≤ 140737488351232 := by omega
  have hq0 : (q.size : Int) ≤ 140737488351232 := by omega
  clear ht
  go_enter Tryd.func4, Tryd.ntmps4
  go_wp2_with (first
    | (go_at_call 8; (with_reducible refine (KA.out _ ((Ext.alloc _ _).trans X1.out)).mono ?_); rintro e w2 ⟨v2, rfl, hw2, rfl⟩; have X2 := hide (((Ext.alloc w _).trans X1.out).trans hw2))
    | (go_at_call 8; (with_reducible refine (KA.out _ (Ext.alloc w _)).mono ?_); rintro e w1 ⟨v1, rfl, hx1, rfl⟩; have X1 := hide hx1))
  go_ret
  exact Ret.mk X2.out rfl
set_option maxRecDepth 20000 in
set_option maxHeartbeats 6400000 in
theorem checks_low (p q : ByteArray) (a r : Int) (d : List UInt8) (n : Int) (w : World) (hsm : p.size + q.size ≤ 1000) (ha : 0 ≤ a ∧ a < 18446744073709551616) (hd : d.length = 32) (h1 : r < 1) (ht : Tab w) :
    Calls Tryd.prog 4 #[.string p, .string q, .agg (sec a r d).toArray, .int .i64 n] w (Ret w (Is (.bool true))) := by
  have KA := hide fun W (h : Ext w W) => awake_any W (ht.ext h)
  have hbi : ¬ (1000 : Int) < (p.size : Int) + (q.size : Int) := by omega
  have hp0 : (p.size : Int) ≤ 1000 := by omega
  have hq0 : (q.size : Int) ≤ 1000 := by omega
  have hpl : p.data.toList.length ≤ 1000000 := by rw [show p.data.toList.length = p.size by rw [Array.length_toList]; rfl]; omega
  have hk3 : okR 3 = true := rfl
  have HD := hide hd
  obtain ⟨o, HO⟩ : ∃ o, Hid (strU p.data.toList (be64 a) r = o) := ⟨_, hide rfl⟩
  have HOL : Hid (o.length = 32) := hide (by rw [← HO.out]; exact strU_len _ _ _)
  obtain ⟨o2, HO2⟩ : ∃ o, Hid (strU p.data.toList (be64 a) 3 = o) := ⟨_, hide rfl⟩
  have HOL2 : Hid (o2.length = 32) := hide (by rw [← HO2.out]; exact strU_len _ _ _)
  obtain ⟨o3, HO3⟩ : ∃ o, Hid (strU q.data.toList (be64 a) 3 = o) := ⟨_, hide rfl⟩
  have HOL3 : Hid (o3.length = 32) := hide (by rw [← HO3.out]; exact strU_len _ _ _)
  obtain ⟨b, HB⟩ : ∃ b, Hid ((o2 == o3) = b) := ⟨_, hide rfl⟩
  obtain ⟨b2, HB2⟩ : ∃ b2, Hid (lsT b 3 n = b2) := ⟨_, hide rfl⟩
  obtain ⟨tb, htb⟩ : ∃ tb, Hid (tb = startW ++ roundW) := ⟨_, hide rfl⟩
  have hk : okR r = false := decide_eq_false (by omega)
  have hch : chkV p.data.toList a r d = false := by unfold chkV; rw [hk]; rfl
  have KC := hide fun W (h : Ext w W) => (show Calls Tryd.prog 13 #[.agg (sec a r d).toArray, .string p, .int .i64 n] W (Ret W (Is (.tuple #[.bool false, .bool false]))) from (by
    have h3 := check_any a r d p n W ha hd (by omega) (ht.ext h)
    rw [hch] at h3
    exact h3))
  have KM := hide fun W (h : Ext w W) => (show Calls Tryd.prog 9 #[.string q, .int .u64 a, .int .i64 3] W (Ret W (Is (.tuple #[.agg (sec a 3 o3).toArray, .int .i64 0]))) from (by
    have h3 := make_any q a 3 W ha (by omega) (ht.ext h)
    rw [mkV_ok hk3, errR_ok hk3, HO3.out] at h3
    exact h3))
  have KC2 := hide fun W (h : Ext w W) => (show Calls Tryd.prog 13 #[.agg (sec a 3 o3).toArray, .string q, .int .i64 n] W (Ret W (Is (.tuple #[.bool true, .bool (decide (3 < n))]))) from (by
    have h3 := check_any a 3 o3 q n W ha HOL3.out (by omega) (ht.ext h)
    have e : chkV q.data.toList a 3 o3 = true := by unfold chkV; rw [hk3, HO3.out, beq_self_eq_true]; rfl
    rw [e] at h3
    exact h3))
  have KC3 := hide fun W (h : Ext w W) => (show Calls Tryd.prog 13 #[.agg (sec a 3 o3).toArray, .string p, .int .i64 n] W (Ret W (Is (.tuple #[.bool b, .bool b2]))) from (by
    have h3 := check_any a 3 o3 p n W ha HOL3.out (by omega) (ht.ext h)
    have e : chkV p.data.toList a 3 o3 = b := by unfold chkV; rw [hk3, HO2.out, HB.out]; rfl
    rw [e, HB2.out] at h3
    exact h3))
  have KT := hide fun W => (show Calls Tryd.prog 11 #[] W (Ret W (Is (.agg (us tb).toArray))) from (by
    rw [htb.out]
    exact rmake_any W))
  have KU := hide fun W => ruint_any a W ha.1 ha.2
  have KR3 := hide fun W (A B : Option Addr) (c d : Nat) (hA : Rd W A p.data.toList) (hB : Rd W B (be64 a)) => (show Calls Tryd.prog 10 #[.agg (us tb).toArray, .slice A p.data.toList.length c, .slice B (be64 a).length d, .int .i64 3] W (Ret W (Is (.agg (bs o2).toArray))) from (by
    have h3 := rstretch_u tb htb A B c d p.data.toList (be64 a) 3 W hA hB hpl (by show 8 ≤ 1000000; decide) hk3
    rw [HO2.out] at h3
    exact h3))
  obtain ⟨W0, hX0, hR0, hgg⟩ : ∃ W0, Ext w W0 ∧ Rw W0 w.heap.size 26 (sec a r d) ∧ w.alloc (.cells (sec a r d).toArray 26) = W0 := ⟨_, Ext.alloc _ _, Rw.new w 26 _, rfl⟩
  have X0 := hide hX0
  have R0 := hide hR0
  obtain ⟨g6, hg6⟩ : ∃ g, g = w.heap.size := ⟨_, rfl⟩
  clear hX0 hR0 ht hd hpl hch HO HO2 HO3 HB2 hsm hk
  go_enter Tryd.func4, Tryd.ntmps4
  go_upto_region 1 with fail
  clear hgg
  go_upto_region 4 with (first
    | (go_at_call 8; (with_reducible refine (KA.out _ X0.out).mono ?_); rintro e w1 ⟨v1, rfl, hx1, rfl⟩; have X1 := hide (X0.out.trans hx1); have R1 := hide (R0.out.ext hx1); clear hx1)
    | (refine wpList_load_sec rfl (.tmp 6) rfl _ rfl a r d R1.out HD.out ?_)
    | (go_at_call 13; (with_reducible refine (KC.out _ X1.out).mono ?_); rintro e w2 ⟨v2, rfl, hx2, rfl⟩; have X2 := hide (X1.out.trans hx2); have R2 := hide (R1.out.ext hx2); clear hx2))
  rename_i hK
  rw [← hg6] at R2 ⊢
  clear hg6
  refine wp_region_sp (Nat.le_refl _) [
      Sp.is (.pointer (some ⟨g6, 1, none⟩)),
      Sp.is (.int .i64 r),
      Sp.is (.bool false),
      Sp.is (.bool false),
      Sp.is undef,
      Sp.is undef,
      Sp.is undef,
      Sp.is (Value.bool false),
      Sp.is (Value.bool false),
      Sp.is undef,
      Sp.is undef,
      Sp.is undef,
      Sp.is undef,
      Sp.is undef,
      Sp.is undef,
      Sp.is undef,
      Sp.is undef,
      Sp.is undef,
      Sp.is undef,
      Sp.is undef,
      Sp.is undef,
      Sp.is (Value.bool false),
      Sp.is (Value.bool false)] (by kernel_rfl) (by kernel_rfl) ?_ ?_
  · refine ⟨?_, ?_, ?_, ?_, ?_, ?_, ?_, ?_, ?_, ?_, ?_, ?_, ?_, ?_, ?_, ?_, ?_, ?_, ?_, ?_, ?_, ?_, ?_, trivial⟩
    · intro az wz hx hB hk H
      refine .inl ⟨wanted_none rfl, ?_⟩
      exact gives_field rfl (by rw [(ev (show az.tmps[6]? = some (.pointer (some ⟨g6, 0, none⟩)) from hk 6 rfl))]) (run_f1 _ _) ⟨Grw.refl _ _, rfl⟩
    · intro az wz hx hB hk H
      obtain ⟨v37, h37, s37⟩ := H 0 rfl _ rfl 37 rfl
      refine .inl ⟨wanted_none rfl, ?_⟩
      exact gives_cell rfl (by rw [ev h37]; exact s37) Tryd.underlying3 ((R2.out.ext hx.below).cell (i := 1) rfl) ⟨Grw.refl _ _, rfl⟩
    · intro az wz hx hB hk H
      obtain ⟨v38, h38, s38⟩ := H 1 rfl _ rfl 38 rfl
      refine .inl ⟨wanted_none rfl, ?_⟩
      exact gives_geq_int (k := .i64) r 1 rfl (by rw [ev h38]; exact s38) rfl ⟨Grw.refl _ _, congrArg Value.bool (decide_eq_false (by omega))⟩
    · intro az wz hx hB hk H
      obtain ⟨v39, h39, s39⟩ := H 2 rfl _ rfl 39 rfl
      refine .inl ⟨wanted_none rfl, ?_⟩
      refine gives_move rfl ?_
      rw [(ev h39)]
      exact ⟨Grw.refl _ _, s39⟩
    · intro az wz hx hB hk H
      obtain ⟨v40, h40, s40⟩ := H 3 rfl _ rfl 40 rfl
      obtain rfl : v40 = .bool !true := s40
      exact .inr ⟨wanted_no _ rfl rfl rfl h40, rfl⟩
    · intro az wz hx hB hk H
      obtain ⟨v40, h40, s40⟩ := H 3 rfl _ rfl 40 rfl
      obtain rfl : v40 = .bool !true := s40
      exact .inr ⟨wanted_no _ rfl rfl rfl h40, rfl⟩
    · intro az wz hx hB hk H
      obtain ⟨v40, h40, s40⟩ := H 3 rfl _ rfl 40 rfl
      obtain rfl : v40 = .bool !true := s40
      exact .inr ⟨wanted_no _ rfl rfl rfl h40, rfl⟩
    · intro az wz hx hB hk H
      obtain ⟨v40, h40, s40⟩ := H 3 rfl _ rfl 40 rfl
      refine .inl ⟨wanted_none rfl, ?_⟩
      refine gives_pick false rfl ?_ ?_
      · rw [(ev h40)]
        exact s40
      · show Grw _ _ _ ∧ _
        exact ⟨Grw.refl _ _, rfl⟩
    · intro az wz hx hB hk H
      obtain ⟨v44, h44, s44⟩ := H 7 rfl _ rfl 44 rfl
      refine .inl ⟨wanted_none rfl, ?_⟩
      refine gives_move rfl ?_
      rw [(ev h44)]
      exact ⟨Grw.refl _ _, s44⟩
    · intro az wz hx hB hk H
      obtain ⟨v45, h45, s45⟩ := H 8 rfl _ rfl 45 rfl
      obtain rfl : v45 = .bool !true := s45
      exact .inr ⟨wanted_no _ rfl rfl rfl h45, rfl⟩
    · intro az wz hx hB hk H
      obtain ⟨v45, h45, s45⟩ := H 8 rfl _ rfl 45 rfl
      obtain rfl : v45 = .bool !true := s45
      exact .inr ⟨wanted_no _ rfl rfl rfl h45, rfl⟩
    · intro az wz hx hB hk H
      obtain ⟨v45, h45, s45⟩ := H 8 rfl _ rfl 45 rfl
      obtain rfl : v45 = .bool !true := s45
      exact .inr ⟨wanted_no _ rfl rfl rfl h45, rfl⟩
    · intro az wz hx hB hk H
      obtain ⟨v45, h45, s45⟩ := H 8 rfl _ rfl 45 rfl
      obtain rfl : v45 = .bool !true := s45
      exact .inr ⟨wanted_no _ rfl rfl rfl h45, rfl⟩
    · intro az wz hx hB hk H
      obtain ⟨v45, h45, s45⟩ := H 8 rfl _ rfl 45 rfl
      obtain rfl : v45 = .bool !true := s45
      exact .inr ⟨wanted_no _ rfl rfl rfl h45, rfl⟩
    · intro az wz hx hB hk H
      obtain ⟨v45, h45, s45⟩ := H 8 rfl _ rfl 45 rfl
      obtain rfl : v45 = .bool !true := s45
      exact .inr ⟨wanted_no _ rfl rfl rfl h45, rfl⟩
    · intro az wz hx hB hk H
      obtain ⟨v45, h45, s45⟩ := H 8 rfl _ rfl 45 rfl
      obtain rfl : v45 = .bool !true := s45
      exact .inr ⟨wanted_no _ rfl rfl rfl h45, rfl⟩
    · intro az wz hx hB hk H
      obtain ⟨v45, h45, s45⟩ := H 8 rfl _ rfl 45 rfl
      obtain rfl : v45 = .bool !true := s45
      exact .inr ⟨wanted_no _ rfl rfl rfl h45, rfl⟩
    · intro az wz hx hB hk H
      obtain ⟨v45, h45, s45⟩ := H 8 rfl _ rfl 45 rfl
      obtain rfl : v45 = .bool !true := s45
      exact .inr ⟨wanted_no _ rfl rfl rfl h45, rfl⟩
    · intro az wz hx hB hk H
      obtain ⟨v45, h45, s45⟩ := H 8 rfl _ rfl 45 rfl
      obtain rfl : v45 = .bool !true := s45
      exact .inr ⟨wanted_no _ rfl rfl rfl h45, rfl⟩
    · intro az wz hx hB hk H
      obtain ⟨v45, h45, s45⟩ := H 8 rfl _ rfl 45 rfl
      obtain rfl : v45 = .bool !true := s45
      exact .inr ⟨wanted_no _ rfl rfl rfl h45, rfl⟩
    · intro az wz hx hB hk H
      obtain ⟨v45, h45, s45⟩ := H 8 rfl _ rfl 45 rfl
      obtain rfl : v45 = .bool !true := s45
      exact .inr ⟨wanted_no _ rfl rfl rfl h45, rfl⟩
    · intro az wz hx hB hk H
      obtain ⟨v45, h45, s45⟩ := H 8 rfl _ rfl 45 rfl
      refine .inl ⟨wanted_none rfl, ?_⟩
      refine gives_pick false rfl ?_ ?_
      · rw [(ev h45)]
        exact s45
      · show Grw _ _ _ ∧ _
        exact ⟨Grw.refl _ _, rfl⟩
    · intro az wz hx hB hk H
      obtain ⟨v58, h58, s58⟩ := H 21 rfl _ rfl 58 rfl
      refine .inl ⟨wanted_none rfl, ?_⟩
      refine gives_assign rfl ?_
      rw [(ev h58)]
      exact ⟨Grw.refl _ _, s58⟩
  · intro az wz hx hd hs hv hsame
    obtain ⟨v37, h37, s37⟩ := hv 0 _ 37 rfl rfl
    obtain rfl : v37 = (.pointer (some ⟨g6, 1, none⟩)) := s37
    obtain ⟨v38, h38, s38⟩ := hv 1 _ 38 rfl rfl
    obtain rfl : v38 = (.int .i64 r) := s38
    obtain ⟨v39, h39, s39⟩ := hv 2 _ 39 rfl rfl
    obtain rfl : v39 = (.bool false) := s39
    obtain ⟨v40, h40, s40⟩ := hv 3 _ 40 rfl rfl
    obtain rfl : v40 = (.bool false) := s40
    obtain ⟨v41, h41, s41⟩ := hv 4 _ 41 rfl rfl
    obtain rfl : v41 = undef := s41
    obtain ⟨v42, h42, s42⟩ := hv 5 _ 42 rfl rfl
    obtain rfl : v42 = undef := s42
    obtain ⟨v43, h43, s43⟩ := hv 6 _ 43 rfl rfl
    obtain rfl : v43 = undef := s43
    obtain ⟨v44, h44, s44⟩ := hv 7 _ 44 rfl rfl
    obtain rfl : v44 = (Value.bool false) := s44
    obtain ⟨v45, h45, s45⟩ := hv 8 _ 45 rfl rfl
    obtain rfl : v45 = (Value.bool false) := s45
    obtain ⟨v46, h46, s46⟩ := hv 9 _ 46 rfl rfl
    obtain rfl : v46 = undef := s46
    obtain ⟨v47, h47, s47⟩ := hv 10 _ 47 rfl rfl
    obtain rfl : v47 = undef := s47
    obtain ⟨v48, h48, s48⟩ := hv 11 _ 48 rfl rfl
    obtain rfl : v48 = undef := s48
    obtain ⟨v49, h49, s49⟩ := hv 12 _ 49 rfl rfl
    obtain rfl : v49 = undef := s49
    obtain ⟨v50, h50, s50⟩ := hv 13 _ 50 rfl rfl
    obtain rfl : v50 = undef := s50
    obtain ⟨v51, h51, s51⟩ := hv 14 _ 51 rfl rfl
    obtain rfl : v51 = undef := s51
    obtain ⟨v52, h52, s52⟩ := hv 15 _ 52 rfl rfl
    obtain rfl : v52 = undef := s52
    obtain ⟨v53, h53, s53⟩ := hv 16 _ 53 rfl rfl
    obtain rfl : v53 = undef := s53
    obtain ⟨v54, h54, s54⟩ := hv 17 _ 54 rfl rfl
    obtain rfl : v54 = undef := s54
    obtain ⟨v55, h55, s55⟩ := hv 18 _ 55 rfl rfl
    obtain rfl : v55 = undef := s55
    obtain ⟨v56, h56, s56⟩ := hv 19 _ 56 rfl rfl
    obtain rfl : v56 = undef := s56
    obtain ⟨v57, h57, s57⟩ := hv 20 _ 57 rfl rfl
    obtain rfl : v57 = undef := s57
    obtain ⟨v58, h58, s58⟩ := hv 21 _ 58 rfl rfl
    obtain rfl : v58 = (Value.bool false) := s58
    obtain ⟨v11, h11, s11⟩ := hv 22 _ 11 rfl rfl
    obtain rfl : v11 = (Value.bool false) := s11
    have hfr := frame_last (k := 23) [(37, (.pointer (some ⟨g6, 1, none⟩))), (38, (.int .i64 r)), (39, (.bool false)), (40, (.bool false)), (41, undef), (42, undef), (43, undef), (44, (Value.bool false)), (45, (Value.bool false)), (46, undef), (47, undef), (48, undef), (49, undef), (50, undef), (51, undef), (52, undef), (53, undef), (54, undef), (55, undef), (56, undef), (57, undef), (58, (Value.bool false)), (11, (Value.bool false))] hs (by kernel_rfl) (by simp only [List.forall_mem_cons, List.not_mem_nil, false_implies, implies_true, and_true]; exact ⟨h37, h38, h39, h40, h41, h42, h43, h44, h45, h46, h47, h48, h49, h50, h51, h52, h53, h54, h55, h56, h57, h58, h11⟩) (fun t' h => hsame t' fun i o ho => h i o (by intro e; subst e; cases ho) ho)
    simp only [List.foldl_cons, List.foldl_nil, List.setIfInBounds_toArray, List.set_cons_succ, List.set_cons_zero] at hfr
    obtain ⟨tm, df⟩ := az
    simp only [] at hfr hd
    subst hfr hd
    clear hv hsame hs h37 h38 h39 h40 h41 h42 h43 h44 h45 h46 h47 h48 h49 h50 h51 h52 h53 h54 h55 h56 h57 h58 h11
    have X4 := hide (X2.out.trans hx.below)
    have R4 := hide (R2.out.ext hx.below)
    refine hK _ _ ?_
    clear hK
    have e0 := R4.out.cell (i := 0) rfl
    have e1 := R4.out.cell (i := 1) rfl
    go_upto_region 7 with fail
    go_upto_region 8 with (first
      | (go_at_call 9; (with_reducible refine (KM.out _ X4.out).mono ?_); rintro e w5 ⟨v5, rfl, hx5, rfl⟩; have X5 := hide (X4.out.trans hx5); have R5 := hide (R4.out.ext hx5); clear hx5)
      | ((with_reducible show wpList _ _ _ (⟨none, .store _ (.tmp 12) _, _, _, _, _⟩ :: _) _ _);
         refine wpList_store_sec rfl (.tmp 12) (.tmp 78) rfl w5.heap.size rfl a 3 o3 rfl 0 0 zer32 (heap_alloc_new w5 _) HOL3.out rfl ?_;
         intro w6 hr6 hl6;
         have X6 := hide ((X5.out.trans (Ext.alloc _ _)).laid hl6 X5.out.size);
         have S6 := hide hr6;
         have R6 := hide ((R5.out.alloc _).other hl6 (Nat.ne_of_lt R5.out.lt));
         clear hr6 hl6))
    clear e0 e1
    go_upto_region 9 with (first
      | (refine wpList_load_sec rfl (.tmp 12) rfl _ rfl a 3 o3 S6.out HOL3.out ?_)
      | (go_at_call 13; (with_reducible refine (KC2.out _ X6.out).mono ?_); rintro e w7 ⟨v7, rfl, hx7, rfl⟩; have X7 := hide (X6.out.trans hx7); have R7 := hide (R6.out.ext hx7); have S7 := hide (S6.out.ext hx7); clear hx7))
    rename_i hK2
    obtain ⟨g12, hg12⟩ : ∃ g, g = w5.heap.size := ⟨_, rfl⟩
    rw [← hg12] at S7 ⊢
    clear hg12
    refine wp_region_sp (Nat.le_refl _) [
        Sp.is (.agg (us tb).toArray),
        Sp.is (.string p),
        Sp.bytes p.data.toList,
        Sp.is (.pointer (some ⟨g6, 0, none⟩)),
        Sp.is (.int .u64 a),
        Sp.bytes (be64 a),
        Sp.is (.agg (bs o2).toArray),
        Sp.is (.pointer (some ⟨g12, 2, none⟩)),
        Sp.is (.agg (bs o3).toArray),
        Sp.is (.bool b),
        Sp.is (.bool b)] (by kernel_rfl) (by kernel_rfl) ?_ ?_
    · refine ⟨?_, ?_, ?_, ?_, ?_, ?_, ?_, ?_, ?_, ?_, ?_, trivial⟩
      · intro az wz hx hB hk H
        refine .inl ⟨wanted_none rfl, ?_⟩
        refine gives_call (args := #[]) rfl Tryd.call11 (by simp) ?_
        exact (KT.out wz).mono fun _ _ h => h.grw hB
      · intro az wz hx hB hk H
        refine .inl ⟨wanted_none rfl, ?_⟩
        refine gives_move rfl ?_
        rw [(ev (show az.tmps[0]? = some (.string p) from hk 0 rfl))]
        exact ⟨Grw.refl _ _, rfl⟩
      · intro az wz hx hB hk H
        obtain ⟨v88, h88, s88⟩ := H 1 rfl _ rfl 88 rfl
        refine .inl ⟨wanted_none rfl, ?_⟩
        exact gives_conv_str p rfl (by rw [ev h88]; exact s88) (fun v w' h1 h2 => ⟨Grw.of_ext h2 hB, h1⟩)
      · intro az wz hx hB hk H
        refine .inl ⟨wanted_none rfl, ?_⟩
        exact gives_field rfl (by rw [(ev (show az.tmps[6]? = some (.pointer (some ⟨g6, 0, none⟩)) from hk 6 rfl))]) (run_f0 _ _) ⟨Grw.refl _ _, rfl⟩
      · intro az wz hx hB hk H
        obtain ⟨v90, h90, s90⟩ := H 3 rfl _ rfl 90 rfl
        refine .inl ⟨wanted_none rfl, ?_⟩
        exact gives_cell rfl (by rw [ev h90]; exact s90) Tryd.underlying22 ((R7.out.ext hx.below).cell (i := 0) rfl) ⟨Grw.refl _ _, rfl⟩
      · intro az wz hx hB hk H
        obtain ⟨v91, h91, s91⟩ := H 4 rfl _ rfl 91 rfl
        refine .inl ⟨wanted_none rfl, ?_⟩
        refine gives_call rfl Tryd.call12 (by simp only [List.map_toArray, List.map_cons, List.map_nil, ev h91]; rw [s91]) ?_
        exact (KU.out wz).mono fun _ _ h => h.grw hB
      · intro az wz hx hB hk H
        obtain ⟨v87, h87, s87⟩ := H 0 rfl _ rfl 87 rfl
        obtain ⟨v89, h89, s89⟩ := H 2 rfl _ rfl 89 rfl
        obtain ⟨v92, h92, s92⟩ := H 5 rfl _ rfl 92 rfl
        refine .inl ⟨wanted_none rfl, ?_⟩
        obtain ⟨A6, c6, rfl, hc6, hr6⟩ := s89
        obtain ⟨A8, c8, rfl, hc8, hr8⟩ := s92
        refine gives_call rfl Tryd.call10 (by simp only [List.map_toArray, List.map_cons, List.map_nil, ev h87, ev h89, ev h92]; rw [s87]) ?_
        exact (KR3.out wz A6 A8 c6 c8 hr6 hr8).mono fun _ _ h => h.grw hB
      · intro az wz hx hB hk H
        refine .inl ⟨wanted_none rfl, ?_⟩
        exact gives_field rfl (by rw [(ev (show az.tmps[12]? = some (.pointer (some ⟨g12, 0, none⟩)) from hk 12 rfl))]) (run_fd _ _) ⟨Grw.refl _ _, rfl⟩
      · intro az wz hx hB hk H
        obtain ⟨v94, h94, s94⟩ := H 7 rfl _ rfl 94 rfl
        refine .inl ⟨wanted_none rfl, ?_⟩
        exact gives_load_dig g12 o3 rfl (by rw [ev h94]; exact s94) (sec_cells (S7.out.ext hx.below)) HOL3.out ⟨Grw.refl _ _, rfl⟩
      · intro az wz hx hB hk H
        obtain ⟨v93, h93, s93⟩ := H 6 rfl _ rfl 93 rfl
        obtain ⟨v95, h95, s95⟩ := H 8 rfl _ rfl 95 rfl
        refine .inl ⟨wanted_none rfl, ?_⟩
        exact gives_eql_dig o2 o3 rfl HOL2.out HOL3.out (by rw [ev h93]; exact s93) (by rw [ev h95]; exact s95) ⟨Grw.refl _ _, congrArg Value.bool HB.out⟩
      · intro az wz hx hB hk H
        obtain ⟨v96, h96, s96⟩ := H 9 rfl _ rfl 96 rfl
        refine .inl ⟨wanted_none rfl, ?_⟩
        refine gives_assign rfl ?_
        rw [(ev h96)]
        exact ⟨Grw.refl _ _, s96⟩
    · intro az wz hx hd hs hv hsame
      obtain ⟨v87, h87, s87⟩ := hv 0 _ 87 rfl rfl
      obtain rfl : v87 = (.agg (us tb).toArray) := s87
      obtain ⟨v88, h88, s88⟩ := hv 1 _ 88 rfl rfl
      obtain rfl : v88 = (.string p) := s88
      obtain ⟨v89, h89, s89⟩ := hv 2 _ 89 rfl rfl
      obtain ⟨v90, h90, s90⟩ := hv 3 _ 90 rfl rfl
      obtain rfl : v90 = (.pointer (some ⟨g6, 0, none⟩)) := s90
      obtain ⟨v91, h91, s91⟩ := hv 4 _ 91 rfl rfl
      obtain rfl : v91 = (.int .u64 a) := s91
      obtain ⟨v92, h92, s92⟩ := hv 5 _ 92 rfl rfl
      obtain ⟨v93, h93, s93⟩ := hv 6 _ 93 rfl rfl
      obtain rfl : v93 = (.agg (bs o2).toArray) := s93
      obtain ⟨v94, h94, s94⟩ := hv 7 _ 94 rfl rfl
      obtain rfl : v94 = (.pointer (some ⟨g12, 2, none⟩)) := s94
      obtain ⟨v95, h95, s95⟩ := hv 8 _ 95 rfl rfl
      obtain rfl : v95 = (.agg (bs o3).toArray) := s95
      obtain ⟨v96, h96, s96⟩ := hv 9 _ 96 rfl rfl
      obtain rfl : v96 = (.bool b) := s96
      obtain ⟨v16, h16, s16⟩ := hv 10 _ 16 rfl rfl
      obtain rfl : v16 = (.bool b) := s16
      have hfr := frame_last (k := 11) [(87, (.agg (us tb).toArray)), (88, (.string p)), (89, v89), (90, (.pointer (some ⟨g6, 0, none⟩))), (91, (.int .u64 a)), (92, v92), (93, (.agg (bs o2).toArray)), (94, (.pointer (some ⟨g12, 2, none⟩))), (95, (.agg (bs o3).toArray)), (96, (.bool b)), (16, (.bool b))] hs (by kernel_rfl) (by simp only [List.forall_mem_cons, List.not_mem_nil, false_implies, implies_true, and_true]; exact ⟨h87, h88, h89, h90, h91, h92, h93, h94, h95, h96, h16⟩) (fun t' h => hsame t' fun i o ho => h i o (by intro e; subst e; cases ho) ho)
      simp only [List.foldl_cons, List.foldl_nil, List.setIfInBounds_toArray, List.set_cons_succ, List.set_cons_zero] at hfr
      obtain ⟨tm, df⟩ := az
      simp only [] at hfr hd
      subst hfr hd
      clear hv hsame hs h87 h88 h89 h90 h91 h92 h93 h94 h95 h96 h16
      have X9 := hide (X7.out.trans hx.below)
      have S9 := hide (S7.out.ext hx.below)
      refine hK2 _ _ ?_
      clear hK2
      go_wp2_with (first
        | (refine wpList_load_sec rfl (.tmp 12) rfl _ rfl a 3 o3 S9.out HOL3.out ?_)
        | (go_at_call 13; (with_reducible refine (KC3.out _ X9.out).mono ?_); rintro e w10 ⟨v10, rfl, hx10, rfl⟩; have X10 := hide (X9.out.trans hx10); clear hx10))
      go_ret
      exact Ret.mk X10.out rfl
set_option maxRecDepth 20000 in
set_option maxHeartbeats 6400000 in
theorem checks_high (p q : ByteArray) (a r : Int) (d : List UInt8) (n : Int) (w : World) (hsm : p.size + q.size ≤ 1000) (ha : 0 ≤ a ∧ a < 18446744073709551616) (hd : d.length = 32) (h1 : ¬ r < 1) (h2 : 64 < r) (ht : Tab w) :
    Calls Tryd.prog 4 #[.string p, .string q, .agg (sec a r d).toArray, .int .i64 n] w (Ret w (Is (.bool true))) := by
  have KA := hide fun W (h : Ext w W) => awake_any W (ht.ext h)
  have hbi : ¬ (1000 : Int) < (p.size : Int) + (q.size : Int) := by omega
  have hp0 : (p.size : Int) ≤ 1000 := by omega
  have hq0 : (q.size : Int) ≤ 1000 := by omega
  have hpl : p.data.toList.length ≤ 1000000 := by rw [show p.data.toList.length = p.size by rw [Array.length_toList]; rfl]; omega
  have hk3 : okR 3 = true := rfl
  have HD := hide hd
  obtain ⟨o, HO⟩ : ∃ o, Hid (strU p.data.toList (be64 a) r = o) := ⟨_, hide rfl⟩
  have HOL : Hid (o.length = 32) := hide (by rw [← HO.out]; exact strU_len _ _ _)
  obtain ⟨o2, HO2⟩ : ∃ o, Hid (strU p.data.toList (be64 a) 3 = o) := ⟨_, hide rfl⟩
  have HOL2 : Hid (o2.length = 32) := hide (by rw [← HO2.out]; exact strU_len _ _ _)
  obtain ⟨o3, HO3⟩ : ∃ o, Hid (strU q.data.toList (be64 a) 3 = o) := ⟨_, hide rfl⟩
  have HOL3 : Hid (o3.length = 32) := hide (by rw [← HO3.out]; exact strU_len _ _ _)
  obtain ⟨b, HB⟩ : ∃ b, Hid ((o2 == o3) = b) := ⟨_, hide rfl⟩
  obtain ⟨b2, HB2⟩ : ∃ b2, Hid (lsT b 3 n = b2) := ⟨_, hide rfl⟩
  obtain ⟨tb, htb⟩ : ∃ tb, Hid (tb = startW ++ roundW) := ⟨_, hide rfl⟩
  have hk : okR r = false := decide_eq_false (by omega)
  have hch : chkV p.data.toList a r d = false := by unfold chkV; rw [hk]; rfl
  have KC := hide fun W (h : Ext w W) => (show Calls Tryd.prog 13 #[.agg (sec a r d).toArray, .string p, .int .i64 n] W (Ret W (Is (.tuple #[.bool false, .bool false]))) from (by
    have h3 := check_any a r d p n W ha hd (by omega) (ht.ext h)
    rw [hch] at h3
    exact h3))
  have KM := hide fun W (h : Ext w W) => (show Calls Tryd.prog 9 #[.string q, .int .u64 a, .int .i64 3] W (Ret W (Is (.tuple #[.agg (sec a 3 o3).toArray, .int .i64 0]))) from (by
    have h3 := make_any q a 3 W ha (by omega) (ht.ext h)
    rw [mkV_ok hk3, errR_ok hk3, HO3.out] at h3
    exact h3))
  have KC2 := hide fun W (h : Ext w W) => (show Calls Tryd.prog 13 #[.agg (sec a 3 o3).toArray, .string q, .int .i64 n] W (Ret W (Is (.tuple #[.bool true, .bool (decide (3 < n))]))) from (by
    have h3 := check_any a 3 o3 q n W ha HOL3.out (by omega) (ht.ext h)
    have e : chkV q.data.toList a 3 o3 = true := by unfold chkV; rw [hk3, HO3.out, beq_self_eq_true]; rfl
    rw [e] at h3
    exact h3))
  have KC3 := hide fun W (h : Ext w W) => (show Calls Tryd.prog 13 #[.agg (sec a 3 o3).toArray, .string p, .int .i64 n] W (Ret W (Is (.tuple #[.bool b, .bool b2]))) from (by
    have h3 := check_any a 3 o3 p n W ha HOL3.out (by omega) (ht.ext h)
    have e : chkV p.data.toList a 3 o3 = b := by unfold chkV; rw [hk3, HO2.out, HB.out]; rfl
    rw [e, HB2.out] at h3
    exact h3))
  have KT := hide fun W => (show Calls Tryd.prog 11 #[] W (Ret W (Is (.agg (us tb).toArray))) from (by
    rw [htb.out]
    exact rmake_any W))
  have KU := hide fun W => ruint_any a W ha.1 ha.2
  have KR3 := hide fun W (A B : Option Addr) (c d : Nat) (hA : Rd W A p.data.toList) (hB : Rd W B (be64 a)) => (show Calls Tryd.prog 10 #[.agg (us tb).toArray, .slice A p.data.toList.length c, .slice B (be64 a).length d, .int .i64 3] W (Ret W (Is (.agg (bs o2).toArray))) from (by
    have h3 := rstretch_u tb htb A B c d p.data.toList (be64 a) 3 W hA hB hpl (by show 8 ≤ 1000000; decide) hk3
    rw [HO2.out] at h3
    exact h3))
  obtain ⟨W0, hX0, hR0, hgg⟩ : ∃ W0, Ext w W0 ∧ Rw W0 w.heap.size 26 (sec a r d) ∧ w.alloc (.cells (sec a r d).toArray 26) = W0 := ⟨_, Ext.alloc _ _, Rw.new w 26 _, rfl⟩
  have X0 := hide hX0
  have R0 := hide hR0
  obtain ⟨g6, hg6⟩ : ∃ g, g = w.heap.size := ⟨_, rfl⟩
  clear hX0 hR0 ht hd hpl hch HO HO2 HO3 HB2 hsm hk
  go_enter Tryd.func4, Tryd.ntmps4
  go_upto_region 1 with fail
  clear hgg
  go_upto_region 4 with (first
    | (go_at_call 8; (with_reducible refine (KA.out _ X0.out).mono ?_); rintro e w1 ⟨v1, rfl, hx1, rfl⟩; have X1 := hide (X0.out.trans hx1); have R1 := hide (R0.out.ext hx1); clear hx1)
    | (refine wpList_load_sec rfl (.tmp 6) rfl _ rfl a r d R1.out HD.out ?_)
    | (go_at_call 13; (with_reducible refine (KC.out _ X1.out).mono ?_); rintro e w2 ⟨v2, rfl, hx2, rfl⟩; have X2 := hide (X1.out.trans hx2); have R2 := hide (R1.out.ext hx2); clear hx2))
  rename_i hK
  rw [← hg6] at R2 ⊢
  clear hg6
  refine wp_region_sp (Nat.le_refl _) [
      Sp.is (.pointer (some ⟨g6, 1, none⟩)),
      Sp.is (.int .i64 r),
      Sp.is (.bool true),
      Sp.is (.bool true),
      Sp.is (.pointer (some ⟨g6, 1, none⟩)),
      Sp.is (.int .i64 r),
      Sp.is (.bool false),
      Sp.is (.bool false),
      Sp.is (.bool false),
      Sp.is undef,
      Sp.is undef,
      Sp.is undef,
      Sp.is undef,
      Sp.is undef,
      Sp.is undef,
      Sp.is undef,
      Sp.is undef,
      Sp.is undef,
      Sp.is undef,
      Sp.is undef,
      Sp.is undef,
      Sp.is (Value.bool false),
      Sp.is (Value.bool false)] (by kernel_rfl) (by kernel_rfl) ?_ ?_
  · refine ⟨?_, ?_, ?_, ?_, ?_, ?_, ?_, ?_, ?_, ?_, ?_, ?_, ?_, ?_, ?_, ?_, ?_, ?_, ?_, ?_, ?_, ?_, ?_, trivial⟩
    · intro az wz hx hB hk H
      refine .inl ⟨wanted_none rfl, ?_⟩
      exact gives_field rfl (by rw [(ev (show az.tmps[6]? = some (.pointer (some ⟨g6, 0, none⟩)) from hk 6 rfl))]) (run_f1 _ _) ⟨Grw.refl _ _, rfl⟩
    · intro az wz hx hB hk H
      obtain ⟨v37, h37, s37⟩ := H 0 rfl _ rfl 37 rfl
      refine .inl ⟨wanted_none rfl, ?_⟩
      exact gives_cell rfl (by rw [ev h37]; exact s37) Tryd.underlying3 ((R2.out.ext hx.below).cell (i := 1) rfl) ⟨Grw.refl _ _, rfl⟩
    · intro az wz hx hB hk H
      obtain ⟨v38, h38, s38⟩ := H 1 rfl _ rfl 38 rfl
      refine .inl ⟨wanted_none rfl, ?_⟩
      exact gives_geq_int (k := .i64) r 1 rfl (by rw [ev h38]; exact s38) rfl ⟨Grw.refl _ _, congrArg Value.bool (decide_eq_true (by omega))⟩
    · intro az wz hx hB hk H
      obtain ⟨v39, h39, s39⟩ := H 2 rfl _ rfl 39 rfl
      refine .inl ⟨wanted_none rfl, ?_⟩
      refine gives_move rfl ?_
      rw [(ev h39)]
      exact ⟨Grw.refl _ _, s39⟩
    · intro az wz hx hB hk H
      obtain ⟨v40, h40, s40⟩ := H 3 rfl _ rfl 40 rfl
      have g0 : az.tmps[40]? = some (.bool true) := by rw [h40]; exact congrArg some s40
      refine .inl ⟨wanted_yes _ rfl rfl rfl g0, ?_⟩
      exact gives_field rfl (by rw [(ev (show az.tmps[6]? = some (.pointer (some ⟨g6, 0, none⟩)) from hk 6 rfl))]) (run_f1 _ _) ⟨Grw.refl _ _, rfl⟩
    · intro az wz hx hB hk H
      obtain ⟨v40, h40, s40⟩ := H 3 rfl _ rfl 40 rfl
      obtain ⟨v41, h41, s41⟩ := H 4 rfl _ rfl 41 rfl
      have g0 : az.tmps[40]? = some (.bool true) := by rw [h40]; exact congrArg some s40
      refine .inl ⟨wanted_yes _ rfl rfl rfl g0, ?_⟩
      exact gives_cell rfl (by rw [ev h41]; exact s41) Tryd.underlying3 ((R2.out.ext hx.below).cell (i := 1) rfl) ⟨Grw.refl _ _, rfl⟩
    · intro az wz hx hB hk H
      obtain ⟨v40, h40, s40⟩ := H 3 rfl _ rfl 40 rfl
      obtain ⟨v42, h42, s42⟩ := H 5 rfl _ rfl 42 rfl
      have g0 : az.tmps[40]? = some (.bool true) := by rw [h40]; exact congrArg some s40
      refine .inl ⟨wanted_yes _ rfl rfl rfl g0, ?_⟩
      exact gives_leq_int (k := .i64) r 64 rfl (by rw [ev h42]; exact s42) rfl ⟨Grw.refl _ _, congrArg Value.bool (decide_eq_false (by omega))⟩
    · intro az wz hx hB hk H
      obtain ⟨v40, h40, s40⟩ := H 3 rfl _ rfl 40 rfl
      obtain ⟨v43, h43, s43⟩ := H 6 rfl _ rfl 43 rfl
      refine .inl ⟨wanted_none rfl, ?_⟩
      refine gives_pick true rfl ?_ ?_
      · rw [(ev h40)]
        exact s40
      · show Grw _ _ _ ∧ _
        rw [if_pos rfl, (ev h43)]
        exact ⟨Grw.refl _ _, s43⟩
    · intro az wz hx hB hk H
      obtain ⟨v44, h44, s44⟩ := H 7 rfl _ rfl 44 rfl
      refine .inl ⟨wanted_none rfl, ?_⟩
      refine gives_move rfl ?_
      rw [(ev h44)]
      exact ⟨Grw.refl _ _, s44⟩
    · intro az wz hx hB hk H
      obtain ⟨v45, h45, s45⟩ := H 8 rfl _ rfl 45 rfl
      obtain rfl : v45 = .bool !true := s45
      exact .inr ⟨wanted_no _ rfl rfl rfl h45, rfl⟩
    · intro az wz hx hB hk H
      obtain ⟨v45, h45, s45⟩ := H 8 rfl _ rfl 45 rfl
      obtain rfl : v45 = .bool !true := s45
      exact .inr ⟨wanted_no _ rfl rfl rfl h45, rfl⟩
    · intro az wz hx hB hk H
      obtain ⟨v45, h45, s45⟩ := H 8 rfl _ rfl 45 rfl
      obtain rfl : v45 = .bool !true := s45
      exact .inr ⟨wanted_no _ rfl rfl rfl h45, rfl⟩
    · intro az wz hx hB hk H
      obtain ⟨v45, h45, s45⟩ := H 8 rfl _ rfl 45 rfl
      obtain rfl : v45 = .bool !true := s45
      exact .inr ⟨wanted_no _ rfl rfl rfl h45, rfl⟩
    · intro az wz hx hB hk H
      obtain ⟨v45, h45, s45⟩ := H 8 rfl _ rfl 45 rfl
      obtain rfl : v45 = .bool !true := s45
      exact .inr ⟨wanted_no _ rfl rfl rfl h45, rfl⟩
    · intro az wz hx hB hk H
      obtain ⟨v45, h45, s45⟩ := H 8 rfl _ rfl 45 rfl
      obtain rfl : v45 = .bool !true := s45
      exact .inr ⟨wanted_no _ rfl rfl rfl h45, rfl⟩
    · intro az wz hx hB hk H
      obtain ⟨v45, h45, s45⟩ := H 8 rfl _ rfl 45 rfl
      obtain rfl : v45 = .bool !true := s45
      exact .inr ⟨wanted_no _ rfl rfl rfl h45, rfl⟩
    · intro az wz hx hB hk H
      obtain ⟨v45, h45, s45⟩ := H 8 rfl _ rfl 45 rfl
      obtain rfl : v45 = .bool !true := s45
      exact .inr ⟨wanted_no _ rfl rfl rfl h45, rfl⟩
    · intro az wz hx hB hk H
      obtain ⟨v45, h45, s45⟩ := H 8 rfl _ rfl 45 rfl
      obtain rfl : v45 = .bool !true := s45
      exact .inr ⟨wanted_no _ rfl rfl rfl h45, rfl⟩
    · intro az wz hx hB hk H
      obtain ⟨v45, h45, s45⟩ := H 8 rfl _ rfl 45 rfl
      obtain rfl : v45 = .bool !true := s45
      exact .inr ⟨wanted_no _ rfl rfl rfl h45, rfl⟩
    · intro az wz hx hB hk H
      obtain ⟨v45, h45, s45⟩ := H 8 rfl _ rfl 45 rfl
      obtain rfl : v45 = .bool !true := s45
      exact .inr ⟨wanted_no _ rfl rfl rfl h45, rfl⟩
    · intro az wz hx hB hk H
      obtain ⟨v45, h45, s45⟩ := H 8 rfl _ rfl 45 rfl
      obtain rfl : v45 = .bool !true := s45
      exact .inr ⟨wanted_no _ rfl rfl rfl h45, rfl⟩
    · intro az wz hx hB hk H
      obtain ⟨v45, h45, s45⟩ := H 8 rfl _ rfl 45 rfl
      refine .inl ⟨wanted_none rfl, ?_⟩
      refine gives_pick false rfl ?_ ?_
      · rw [(ev h45)]
        exact s45
      · show Grw _ _ _ ∧ _
        exact ⟨Grw.refl _ _, rfl⟩
    · intro az wz hx hB hk H
      obtain ⟨v58, h58, s58⟩ := H 21 rfl _ rfl 58 rfl
      refine .inl ⟨wanted_none rfl, ?_⟩
      refine gives_assign rfl ?_
      rw [(ev h58)]
      exact ⟨Grw.refl _ _, s58⟩
  · intro az wz hx hd hs hv hsame
    obtain ⟨v37, h37, s37⟩ := hv 0 _ 37 rfl rfl
    obtain rfl : v37 = (.pointer (some ⟨g6, 1, none⟩)) := s37
    obtain ⟨v38, h38, s38⟩ := hv 1 _ 38 rfl rfl
    obtain rfl : v38 = (.int .i64 r) := s38
    obtain ⟨v39, h39, s39⟩ := hv 2 _ 39 rfl rfl
    obtain rfl : v39 = (.bool true) := s39
    obtain ⟨v40, h40, s40⟩ := hv 3 _ 40 rfl rfl
    obtain rfl : v40 = (.bool true) := s40
    obtain ⟨v41, h41, s41⟩ := hv 4 _ 41 rfl rfl
    obtain rfl : v41 = (.pointer (some ⟨g6, 1, none⟩)) := s41
    obtain ⟨v42, h42, s42⟩ := hv 5 _ 42 rfl rfl
    obtain rfl : v42 = (.int .i64 r) := s42
    obtain ⟨v43, h43, s43⟩ := hv 6 _ 43 rfl rfl
    obtain rfl : v43 = (.bool false) := s43
    obtain ⟨v44, h44, s44⟩ := hv 7 _ 44 rfl rfl
    obtain rfl : v44 = (.bool false) := s44
    obtain ⟨v45, h45, s45⟩ := hv 8 _ 45 rfl rfl
    obtain rfl : v45 = (.bool false) := s45
    obtain ⟨v46, h46, s46⟩ := hv 9 _ 46 rfl rfl
    obtain rfl : v46 = undef := s46
    obtain ⟨v47, h47, s47⟩ := hv 10 _ 47 rfl rfl
    obtain rfl : v47 = undef := s47
    obtain ⟨v48, h48, s48⟩ := hv 11 _ 48 rfl rfl
    obtain rfl : v48 = undef := s48
    obtain ⟨v49, h49, s49⟩ := hv 12 _ 49 rfl rfl
    obtain rfl : v49 = undef := s49
    obtain ⟨v50, h50, s50⟩ := hv 13 _ 50 rfl rfl
    obtain rfl : v50 = undef := s50
    obtain ⟨v51, h51, s51⟩ := hv 14 _ 51 rfl rfl
    obtain rfl : v51 = undef := s51
    obtain ⟨v52, h52, s52⟩ := hv 15 _ 52 rfl rfl
    obtain rfl : v52 = undef := s52
    obtain ⟨v53, h53, s53⟩ := hv 16 _ 53 rfl rfl
    obtain rfl : v53 = undef := s53
    obtain ⟨v54, h54, s54⟩ := hv 17 _ 54 rfl rfl
    obtain rfl : v54 = undef := s54
    obtain ⟨v55, h55, s55⟩ := hv 18 _ 55 rfl rfl
    obtain rfl : v55 = undef := s55
    obtain ⟨v56, h56, s56⟩ := hv 19 _ 56 rfl rfl
    obtain rfl : v56 = undef := s56
    obtain ⟨v57, h57, s57⟩ := hv 20 _ 57 rfl rfl
    obtain rfl : v57 = undef := s57
    obtain ⟨v58, h58, s58⟩ := hv 21 _ 58 rfl rfl
    obtain rfl : v58 = (Value.bool false) := s58
    obtain ⟨v11, h11, s11⟩ := hv 22 _ 11 rfl rfl
    obtain rfl : v11 = (Value.bool false) := s11
    have hfr := frame_last (k := 23) [(37, (.pointer (some ⟨g6, 1, none⟩))), (38, (.int .i64 r)), (39, (.bool true)), (40, (.bool true)), (41, (.pointer (some ⟨g6, 1, none⟩))), (42, (.int .i64 r)), (43, (.bool false)), (44, (.bool false)), (45, (.bool false)), (46, undef), (47, undef), (48, undef), (49, undef), (50, undef), (51, undef), (52, undef), (53, undef), (54, undef), (55, undef), (56, undef), (57, undef), (58, (Value.bool false)), (11, (Value.bool false))] hs (by kernel_rfl) (by simp only [List.forall_mem_cons, List.not_mem_nil, false_implies, implies_true, and_true]; exact ⟨h37, h38, h39, h40, h41, h42, h43, h44, h45, h46, h47, h48, h49, h50, h51, h52, h53, h54, h55, h56, h57, h58, h11⟩) (fun t' h => hsame t' fun i o ho => h i o (by intro e; subst e; cases ho) ho)
    simp only [List.foldl_cons, List.foldl_nil, List.setIfInBounds_toArray, List.set_cons_succ, List.set_cons_zero] at hfr
    obtain ⟨tm, df⟩ := az
    simp only [] at hfr hd
    subst hfr hd
    clear hv hsame hs h37 h38 h39 h40 h41 h42 h43 h44 h45 h46 h47 h48 h49 h50 h51 h52 h53 h54 h55 h56 h57 h58 h11
    have X4 := hide (X2.out.trans hx.below)
    have R4 := hide (R2.out.ext hx.below)
    refine hK _ _ ?_
    clear hK
    have e0 := R4.out.cell (i := 0) rfl
    have e1 := R4.out.cell (i := 1) rfl
    go_upto_region 7 with fail
    go_upto_region 8 with (first
      | (go_at_call 9; (with_reducible refine (KM.out _ X4.out).mono ?_); rintro e w5 ⟨v5, rfl, hx5, rfl⟩; have X5 := hide (X4.out.trans hx5); have R5 := hide (R4.out.ext hx5); clear hx5)
      | ((with_reducible show wpList _ _ _ (⟨none, .store _ (.tmp 12) _, _, _, _, _⟩ :: _) _ _);
         refine wpList_store_sec rfl (.tmp 12) (.tmp 78) rfl w5.heap.size rfl a 3 o3 rfl 0 0 zer32 (heap_alloc_new w5 _) HOL3.out rfl ?_;
         intro w6 hr6 hl6;
         have X6 := hide ((X5.out.trans (Ext.alloc _ _)).laid hl6 X5.out.size);
         have S6 := hide hr6;
         have R6 := hide ((R5.out.alloc _).other hl6 (Nat.ne_of_lt R5.out.lt));
         clear hr6 hl6))
    clear e0 e1
    go_upto_region 9 with (first
      | (refine wpList_load_sec rfl (.tmp 12) rfl _ rfl a 3 o3 S6.out HOL3.out ?_)
      | (go_at_call 13; (with_reducible refine (KC2.out _ X6.out).mono ?_); rintro e w7 ⟨v7, rfl, hx7, rfl⟩; have X7 := hide (X6.out.trans hx7); have R7 := hide (R6.out.ext hx7); have S7 := hide (S6.out.ext hx7); clear hx7))
    rename_i hK2
    obtain ⟨g12, hg12⟩ : ∃ g, g = w5.heap.size := ⟨_, rfl⟩
    rw [← hg12] at S7 ⊢
    clear hg12
    refine wp_region_sp (Nat.le_refl _) [
        Sp.is (.agg (us tb).toArray),
        Sp.is (.string p),
        Sp.bytes p.data.toList,
        Sp.is (.pointer (some ⟨g6, 0, none⟩)),
        Sp.is (.int .u64 a),
        Sp.bytes (be64 a),
        Sp.is (.agg (bs o2).toArray),
        Sp.is (.pointer (some ⟨g12, 2, none⟩)),
        Sp.is (.agg (bs o3).toArray),
        Sp.is (.bool b),
        Sp.is (.bool b)] (by kernel_rfl) (by kernel_rfl) ?_ ?_
    · refine ⟨?_, ?_, ?_, ?_, ?_, ?_, ?_, ?_, ?_, ?_, ?_, trivial⟩
      · intro az wz hx hB hk H
        refine .inl ⟨wanted_none rfl, ?_⟩
        refine gives_call (args := #[]) rfl Tryd.call11 (by simp) ?_
        exact (KT.out wz).mono fun _ _ h => h.grw hB
      · intro az wz hx hB hk H
        refine .inl ⟨wanted_none rfl, ?_⟩
        refine gives_move rfl ?_
        rw [(ev (show az.tmps[0]? = some (.string p) from hk 0 rfl))]
        exact ⟨Grw.refl _ _, rfl⟩
      · intro az wz hx hB hk H
        obtain ⟨v88, h88, s88⟩ := H 1 rfl _ rfl 88 rfl
        refine .inl ⟨wanted_none rfl, ?_⟩
        exact gives_conv_str p rfl (by rw [ev h88]; exact s88) (fun v w' h1 h2 => ⟨Grw.of_ext h2 hB, h1⟩)
      · intro az wz hx hB hk H
        refine .inl ⟨wanted_none rfl, ?_⟩
        exact gives_field rfl (by rw [(ev (show az.tmps[6]? = some (.pointer (some ⟨g6, 0, none⟩)) from hk 6 rfl))]) (run_f0 _ _) ⟨Grw.refl _ _, rfl⟩
      · intro az wz hx hB hk H
        obtain ⟨v90, h90, s90⟩ := H 3 rfl _ rfl 90 rfl
        refine .inl ⟨wanted_none rfl, ?_⟩
        exact gives_cell rfl (by rw [ev h90]; exact s90) Tryd.underlying22 ((R7.out.ext hx.below).cell (i := 0) rfl) ⟨Grw.refl _ _, rfl⟩
      · intro az wz hx hB hk H
        obtain ⟨v91, h91, s91⟩ := H 4 rfl _ rfl 91 rfl
        refine .inl ⟨wanted_none rfl, ?_⟩
        refine gives_call rfl Tryd.call12 (by simp only [List.map_toArray, List.map_cons, List.map_nil, ev h91]; rw [s91]) ?_
        exact (KU.out wz).mono fun _ _ h => h.grw hB
      · intro az wz hx hB hk H
        obtain ⟨v87, h87, s87⟩ := H 0 rfl _ rfl 87 rfl
        obtain ⟨v89, h89, s89⟩ := H 2 rfl _ rfl 89 rfl
        obtain ⟨v92, h92, s92⟩ := H 5 rfl _ rfl 92 rfl
        refine .inl ⟨wanted_none rfl, ?_⟩
        obtain ⟨A6, c6, rfl, hc6, hr6⟩ := s89
        obtain ⟨A8, c8, rfl, hc8, hr8⟩ := s92
        refine gives_call rfl Tryd.call10 (by simp only [List.map_toArray, List.map_cons, List.map_nil, ev h87, ev h89, ev h92]; rw [s87]) ?_
        exact (KR3.out wz A6 A8 c6 c8 hr6 hr8).mono fun _ _ h => h.grw hB
      · intro az wz hx hB hk H
        refine .inl ⟨wanted_none rfl, ?_⟩
        exact gives_field rfl (by rw [(ev (show az.tmps[12]? = some (.pointer (some ⟨g12, 0, none⟩)) from hk 12 rfl))]) (run_fd _ _) ⟨Grw.refl _ _, rfl⟩
      · intro az wz hx hB hk H
        obtain ⟨v94, h94, s94⟩ := H 7 rfl _ rfl 94 rfl
        refine .inl ⟨wanted_none rfl, ?_⟩
        exact gives_load_dig g12 o3 rfl (by rw [ev h94]; exact s94) (sec_cells (S7.out.ext hx.below)) HOL3.out ⟨Grw.refl _ _, rfl⟩
      · intro az wz hx hB hk H
        obtain ⟨v93, h93, s93⟩ := H 6 rfl _ rfl 93 rfl
        obtain ⟨v95, h95, s95⟩ := H 8 rfl _ rfl 95 rfl
        refine .inl ⟨wanted_none rfl, ?_⟩
        exact gives_eql_dig o2 o3 rfl HOL2.out HOL3.out (by rw [ev h93]; exact s93) (by rw [ev h95]; exact s95) ⟨Grw.refl _ _, congrArg Value.bool HB.out⟩
      · intro az wz hx hB hk H
        obtain ⟨v96, h96, s96⟩ := H 9 rfl _ rfl 96 rfl
        refine .inl ⟨wanted_none rfl, ?_⟩
        refine gives_assign rfl ?_
        rw [(ev h96)]
        exact ⟨Grw.refl _ _, s96⟩
    · intro az wz hx hd hs hv hsame
      obtain ⟨v87, h87, s87⟩ := hv 0 _ 87 rfl rfl
      obtain rfl : v87 = (.agg (us tb).toArray) := s87
      obtain ⟨v88, h88, s88⟩ := hv 1 _ 88 rfl rfl
      obtain rfl : v88 = (.string p) := s88
      obtain ⟨v89, h89, s89⟩ := hv 2 _ 89 rfl rfl
      obtain ⟨v90, h90, s90⟩ := hv 3 _ 90 rfl rfl
      obtain rfl : v90 = (.pointer (some ⟨g6, 0, none⟩)) := s90
      obtain ⟨v91, h91, s91⟩ := hv 4 _ 91 rfl rfl
      obtain rfl : v91 = (.int .u64 a) := s91
      obtain ⟨v92, h92, s92⟩ := hv 5 _ 92 rfl rfl
      obtain ⟨v93, h93, s93⟩ := hv 6 _ 93 rfl rfl
      obtain rfl : v93 = (.agg (bs o2).toArray) := s93
      obtain ⟨v94, h94, s94⟩ := hv 7 _ 94 rfl rfl
      obtain rfl : v94 = (.pointer (some ⟨g12, 2, none⟩)) := s94
      obtain ⟨v95, h95, s95⟩ := hv 8 _ 95 rfl rfl
      obtain rfl : v95 = (.agg (bs o3).toArray) := s95
      obtain ⟨v96, h96, s96⟩ := hv 9 _ 96 rfl rfl
      obtain rfl : v96 = (.bool b) := s96
      obtain ⟨v16, h16, s16⟩ := hv 10 _ 16 rfl rfl
      obtain rfl : v16 = (.bool b) := s16
      have hfr := frame_last (k := 11) [(87, (.agg (us tb).toArray)), (88, (.string p)), (89, v89), (90, (.pointer (some ⟨g6, 0, none⟩))), (91, (.int .u64 a)), (92, v92), (93, (.agg (bs o2).toArray)), (94, (.pointer (some ⟨g12, 2, none⟩))), (95, (.agg (bs o3).toArray)), (96, (.bool b)), (16, (.bool b))] hs (by kernel_rfl) (by simp only [List.forall_mem_cons, List.not_mem_nil, false_implies, implies_true, and_true]; exact ⟨h87, h88, h89, h90, h91, h92, h93, h94, h95, h96, h16⟩) (fun t' h => hsame t' fun i o ho => h i o (by intro e; subst e; cases ho) ho)
      simp only [List.foldl_cons, List.foldl_nil, List.setIfInBounds_toArray, List.set_cons_succ, List.set_cons_zero] at hfr
      obtain ⟨tm, df⟩ := az
      simp only [] at hfr hd
      subst hfr hd
      clear hv hsame hs h87 h88 h89 h90 h91 h92 h93 h94 h95 h96 h16
      have X9 := hide (X7.out.trans hx.below)
      have S9 := hide (S7.out.ext hx.below)
      refine hK2 _ _ ?_
      clear hK2
      go_wp2_with (first
        | (refine wpList_load_sec rfl (.tmp 12) rfl _ rfl a 3 o3 S9.out HOL3.out ?_)
        | (go_at_call 13; (with_reducible refine (KC3.out _ X9.out).mono ?_); rintro e w10 ⟨v10, rfl, hx10, rfl⟩; have X10 := hide (X9.out.trans hx10); clear hx10))
      go_ret
      exact Ret.mk X10.out rfl
set_option maxRecDepth 20000 in
set_option maxHeartbeats 6400000 in
theorem checks_right (p q : ByteArray) (a r : Int) (d : List UInt8) (n : Int) (w : World) (hsm : p.size + q.size ≤ 1000) (ha : 0 ≤ a ∧ a < 18446744073709551616) (hd : d.length = 32) (h1 : ¬ r < 1) (h2 : ¬ 64 < r) (hk : okR r = true) (hb : (strU p.data.toList (be64 a) r == d) = true) (ht : Tab w) :
    Calls Tryd.prog 4 #[.string p, .string q, .agg (sec a r d).toArray, .int .i64 n] w (Ret w (Is (.bool true))) := by
  have KA := hide fun W (h : Ext w W) => awake_any W (ht.ext h)
  have hbi : ¬ (1000 : Int) < (p.size : Int) + (q.size : Int) := by omega
  have hp0 : (p.size : Int) ≤ 1000 := by omega
  have hq0 : (q.size : Int) ≤ 1000 := by omega
  have hpl : p.data.toList.length ≤ 1000000 := by rw [show p.data.toList.length = p.size by rw [Array.length_toList]; rfl]; omega
  have hk3 : okR 3 = true := rfl
  have HD := hide hd
  obtain ⟨o, HO⟩ : ∃ o, Hid (strU p.data.toList (be64 a) r = o) := ⟨_, hide rfl⟩
  have HOL : Hid (o.length = 32) := hide (by rw [← HO.out]; exact strU_len _ _ _)
  obtain ⟨o2, HO2⟩ : ∃ o, Hid (strU p.data.toList (be64 a) 3 = o) := ⟨_, hide rfl⟩
  have HOL2 : Hid (o2.length = 32) := hide (by rw [← HO2.out]; exact strU_len _ _ _)
  obtain ⟨o3, HO3⟩ : ∃ o, Hid (strU q.data.toList (be64 a) 3 = o) := ⟨_, hide rfl⟩
  have HOL3 : Hid (o3.length = 32) := hide (by rw [← HO3.out]; exact strU_len _ _ _)
  obtain ⟨b, HB⟩ : ∃ b, Hid ((o2 == o3) = b) := ⟨_, hide rfl⟩
  obtain ⟨b2, HB2⟩ : ∃ b2, Hid (lsT b 3 n = b2) := ⟨_, hide rfl⟩
  obtain ⟨tb, htb⟩ : ∃ tb, Hid (tb = startW ++ roundW) := ⟨_, hide rfl⟩
  have hch : chkV p.data.toList a r d = true := by unfold chkV; rw [hk, hb]; rfl
  have HDO : Hid ((d == o) = true) := hide (by rw [← HO.out, Bool.beq_comm]; exact hb)
  have KC := hide fun W (h : Ext w W) => (show Calls Tryd.prog 13 #[.agg (sec a r d).toArray, .string p, .int .i64 n] W (Ret W (Is (.tuple #[.bool true, .bool (decide (r < n))]))) from (by
    have h3 := check_any a r d p n W ha hd (by omega) (ht.ext h)
    rw [hch] at h3
    exact h3))
  have KM := hide fun W (h : Ext w W) => (show Calls Tryd.prog 9 #[.string q, .int .u64 a, .int .i64 3] W (Ret W (Is (.tuple #[.agg (sec a 3 o3).toArray, .int .i64 0]))) from (by
    have h3 := make_any q a 3 W ha (by omega) (ht.ext h)
    rw [mkV_ok hk3, errR_ok hk3, HO3.out] at h3
    exact h3))
  have KC2 := hide fun W (h : Ext w W) => (show Calls Tryd.prog 13 #[.agg (sec a 3 o3).toArray, .string q, .int .i64 n] W (Ret W (Is (.tuple #[.bool true, .bool (decide (3 < n))]))) from (by
    have h3 := check_any a 3 o3 q n W ha HOL3.out (by omega) (ht.ext h)
    have e : chkV q.data.toList a 3 o3 = true := by unfold chkV; rw [hk3, HO3.out, beq_self_eq_true]; rfl
    rw [e] at h3
    exact h3))
  have KC3 := hide fun W (h : Ext w W) => (show Calls Tryd.prog 13 #[.agg (sec a 3 o3).toArray, .string p, .int .i64 n] W (Ret W (Is (.tuple #[.bool b, .bool b2]))) from (by
    have h3 := check_any a 3 o3 p n W ha HOL3.out (by omega) (ht.ext h)
    have e : chkV p.data.toList a 3 o3 = b := by unfold chkV; rw [hk3, HO2.out, HB.out]; rfl
    rw [e, HB2.out] at h3
    exact h3))
  have KT := hide fun W => (show Calls Tryd.prog 11 #[] W (Ret W (Is (.agg (us tb).toArray))) from (by
    rw [htb.out]
    exact rmake_any W))
  have KU := hide fun W => ruint_any a W ha.1 ha.2
  have KR := hide fun W (A B : Option Addr) (c d : Nat) (hA : Rd W A p.data.toList) (hB : Rd W B (be64 a)) => (show Calls Tryd.prog 10 #[.agg (us tb).toArray, .slice A p.data.toList.length c, .slice B (be64 a).length d, .int .i64 r] W (Ret W (Is (.agg (bs o).toArray))) from (by
    have h3 := rstretch_u tb htb A B c d p.data.toList (be64 a) r W hA hB hpl (by show 8 ≤ 1000000; decide) hk
    rw [HO.out] at h3
    exact h3))
  have KR3 := hide fun W (A B : Option Addr) (c d : Nat) (hA : Rd W A p.data.toList) (hB : Rd W B (be64 a)) => (show Calls Tryd.prog 10 #[.agg (us tb).toArray, .slice A p.data.toList.length c, .slice B (be64 a).length d, .int .i64 3] W (Ret W (Is (.agg (bs o2).toArray))) from (by
    have h3 := rstretch_u tb htb A B c d p.data.toList (be64 a) 3 W hA hB hpl (by show 8 ≤ 1000000; decide) hk3
    rw [HO2.out] at h3
    exact h3))
  obtain ⟨W0, hX0, hR0, hgg⟩ : ∃ W0, Ext w W0 ∧ Rw W0 w.heap.size 26 (sec a r d) ∧ w.alloc (.cells (sec a r d).toArray 26) = W0 := ⟨_, Ext.alloc _ _, Rw.new w 26 _, rfl⟩
  have X0 := hide hX0
  have R0 := hide hR0
  obtain ⟨g6, hg6⟩ : ∃ g, g = w.heap.size := ⟨_, rfl⟩
  clear hX0 hR0 ht hd hpl hch HO HO2 HO3 HB2 hsm hk hb
  go_enter Tryd.func4, Tryd.ntmps4
  go_upto_region 1 with fail
  clear hgg
  go_upto_region 4 with (first
    | (go_at_call 8; (with_reducible refine (KA.out _ X0.out).mono ?_); rintro e w1 ⟨v1, rfl, hx1, rfl⟩; have X1 := hide (X0.out.trans hx1); have R1 := hide (R0.out.ext hx1); clear hx1)
    | (refine wpList_load_sec rfl (.tmp 6) rfl _ rfl a r d R1.out HD.out ?_)
    | (go_at_call 13; (with_reducible refine (KC.out _ X1.out).mono ?_); rintro e w2 ⟨v2, rfl, hx2, rfl⟩; have X2 := hide (X1.out.trans hx2); have R2 := hide (R1.out.ext hx2); clear hx2))
  rename_i hK
  rw [← hg6] at R2 ⊢
  clear hg6
  refine wp_region_sp (Nat.le_refl _) [
      Sp.is (.pointer (some ⟨g6, 1, none⟩)),
      Sp.is (.int .i64 r),
      Sp.is (.bool true),
      Sp.is (.bool true),
      Sp.is (.pointer (some ⟨g6, 1, none⟩)),
      Sp.is (.int .i64 r),
      Sp.is (.bool true),
      Sp.is (.bool true),
      Sp.is (.bool true),
      Sp.is (.pointer (some ⟨g6, 2, none⟩)),
      Sp.is (.agg (bs d).toArray),
      Sp.is (.agg (us tb).toArray),
      Sp.is (.string p),
      Sp.bytes p.data.toList,
      Sp.is (.pointer (some ⟨g6, 0, none⟩)),
      Sp.is (.int .u64 a),
      Sp.bytes (be64 a),
      Sp.is (.pointer (some ⟨g6, 1, none⟩)),
      Sp.is (.int .i64 r),
      Sp.is (.agg (bs o).toArray),
      Sp.is (.bool true),
      Sp.is (.bool true),
      Sp.is (.bool true)] (by kernel_rfl) (by kernel_rfl) ?_ ?_
  · refine ⟨?_, ?_, ?_, ?_, ?_, ?_, ?_, ?_, ?_, ?_, ?_, ?_, ?_, ?_, ?_, ?_, ?_, ?_, ?_, ?_, ?_, ?_, ?_, trivial⟩
    · intro az wz hx hB hk H
      refine .inl ⟨wanted_none rfl, ?_⟩
      exact gives_field rfl (by rw [(ev (show az.tmps[6]? = some (.pointer (some ⟨g6, 0, none⟩)) from hk 6 rfl))]) (run_f1 _ _) ⟨Grw.refl _ _, rfl⟩
    · intro az wz hx hB hk H
      obtain ⟨v37, h37, s37⟩ := H 0 rfl _ rfl 37 rfl
      refine .inl ⟨wanted_none rfl, ?_⟩
      exact gives_cell rfl (by rw [ev h37]; exact s37) Tryd.underlying3 ((R2.out.ext hx.below).cell (i := 1) rfl) ⟨Grw.refl _ _, rfl⟩
    · intro az wz hx hB hk H
      obtain ⟨v38, h38, s38⟩ := H 1 rfl _ rfl 38 rfl
      refine .inl ⟨wanted_none rfl, ?_⟩
      exact gives_geq_int (k := .i64) r 1 rfl (by rw [ev h38]; exact s38) rfl ⟨Grw.refl _ _, congrArg Value.bool (decide_eq_true (by omega))⟩
    · intro az wz hx hB hk H
      obtain ⟨v39, h39, s39⟩ := H 2 rfl _ rfl 39 rfl
      refine .inl ⟨wanted_none rfl, ?_⟩
      refine gives_move rfl ?_
      rw [(ev h39)]
      exact ⟨Grw.refl _ _, s39⟩
    · intro az wz hx hB hk H
      obtain ⟨v40, h40, s40⟩ := H 3 rfl _ rfl 40 rfl
      have g0 : az.tmps[40]? = some (.bool true) := by rw [h40]; exact congrArg some s40
      refine .inl ⟨wanted_yes _ rfl rfl rfl g0, ?_⟩
      exact gives_field rfl (by rw [(ev (show az.tmps[6]? = some (.pointer (some ⟨g6, 0, none⟩)) from hk 6 rfl))]) (run_f1 _ _) ⟨Grw.refl _ _, rfl⟩
    · intro az wz hx hB hk H
      obtain ⟨v40, h40, s40⟩ := H 3 rfl _ rfl 40 rfl
      obtain ⟨v41, h41, s41⟩ := H 4 rfl _ rfl 41 rfl
      have g0 : az.tmps[40]? = some (.bool true) := by rw [h40]; exact congrArg some s40
      refine .inl ⟨wanted_yes _ rfl rfl rfl g0, ?_⟩
      exact gives_cell rfl (by rw [ev h41]; exact s41) Tryd.underlying3 ((R2.out.ext hx.below).cell (i := 1) rfl) ⟨Grw.refl _ _, rfl⟩
    · intro az wz hx hB hk H
      obtain ⟨v40, h40, s40⟩ := H 3 rfl _ rfl 40 rfl
      obtain ⟨v42, h42, s42⟩ := H 5 rfl _ rfl 42 rfl
      have g0 : az.tmps[40]? = some (.bool true) := by rw [h40]; exact congrArg some s40
      refine .inl ⟨wanted_yes _ rfl rfl rfl g0, ?_⟩
      exact gives_leq_int (k := .i64) r 64 rfl (by rw [ev h42]; exact s42) rfl ⟨Grw.refl _ _, congrArg Value.bool (decide_eq_true (by omega))⟩
    · intro az wz hx hB hk H
      obtain ⟨v40, h40, s40⟩ := H 3 rfl _ rfl 40 rfl
      obtain ⟨v43, h43, s43⟩ := H 6 rfl _ rfl 43 rfl
      refine .inl ⟨wanted_none rfl, ?_⟩
      refine gives_pick true rfl ?_ ?_
      · rw [(ev h40)]
        exact s40
      · show Grw _ _ _ ∧ _
        rw [if_pos rfl, (ev h43)]
        exact ⟨Grw.refl _ _, s43⟩
    · intro az wz hx hB hk H
      obtain ⟨v44, h44, s44⟩ := H 7 rfl _ rfl 44 rfl
      refine .inl ⟨wanted_none rfl, ?_⟩
      refine gives_move rfl ?_
      rw [(ev h44)]
      exact ⟨Grw.refl _ _, s44⟩
    · intro az wz hx hB hk H
      obtain ⟨v45, h45, s45⟩ := H 8 rfl _ rfl 45 rfl
      have g0 : az.tmps[45]? = some (.bool true) := by rw [h45]; exact congrArg some s45
      refine .inl ⟨wanted_yes _ rfl rfl rfl g0, ?_⟩
      exact gives_field rfl (by rw [(ev (show az.tmps[6]? = some (.pointer (some ⟨g6, 0, none⟩)) from hk 6 rfl))]) (run_fd _ _) ⟨Grw.refl _ _, rfl⟩
    · intro az wz hx hB hk H
      obtain ⟨v45, h45, s45⟩ := H 8 rfl _ rfl 45 rfl
      obtain ⟨v46, h46, s46⟩ := H 9 rfl _ rfl 46 rfl
      have g0 : az.tmps[45]? = some (.bool true) := by rw [h45]; exact congrArg some s45
      refine .inl ⟨wanted_yes _ rfl rfl rfl g0, ?_⟩
      exact gives_load_dig g6 d rfl (by rw [ev h46]; exact s46) (sec_cells (R2.out.ext hx.below)) HD.out ⟨Grw.refl _ _, rfl⟩
    · intro az wz hx hB hk H
      obtain ⟨v45, h45, s45⟩ := H 8 rfl _ rfl 45 rfl
      have g0 : az.tmps[45]? = some (.bool true) := by rw [h45]; exact congrArg some s45
      refine .inl ⟨wanted_yes _ rfl rfl rfl g0, ?_⟩
      refine gives_call (args := #[]) rfl Tryd.call11 (by simp) ?_
      exact (KT.out wz).mono fun _ _ h => h.grw hB
    · intro az wz hx hB hk H
      obtain ⟨v45, h45, s45⟩ := H 8 rfl _ rfl 45 rfl
      have g0 : az.tmps[45]? = some (.bool true) := by rw [h45]; exact congrArg some s45
      refine .inl ⟨wanted_yes _ rfl rfl rfl g0, ?_⟩
      refine gives_move rfl ?_
      rw [(ev (show az.tmps[0]? = some (.string p) from hk 0 rfl))]
      exact ⟨Grw.refl _ _, rfl⟩
    · intro az wz hx hB hk H
      obtain ⟨v45, h45, s45⟩ := H 8 rfl _ rfl 45 rfl
      obtain ⟨v49, h49, s49⟩ := H 12 rfl _ rfl 49 rfl
      have g0 : az.tmps[45]? = some (.bool true) := by rw [h45]; exact congrArg some s45
      refine .inl ⟨wanted_yes _ rfl rfl rfl g0, ?_⟩
      exact gives_conv_str p rfl (by rw [ev h49]; exact s49) (fun v w' h1 h2 => ⟨Grw.of_ext h2 hB, h1⟩)
    · intro az wz hx hB hk H
      obtain ⟨v45, h45, s45⟩ := H 8 rfl _ rfl 45 rfl
      have g0 : az.tmps[45]? = some (.bool true) := by rw [h45]; exact congrArg some s45
      refine .inl ⟨wanted_yes _ rfl rfl rfl g0, ?_⟩
      exact gives_field rfl (by rw [(ev (show az.tmps[6]? = some (.pointer (some ⟨g6, 0, none⟩)) from hk 6 rfl))]) (run_f0 _ _) ⟨Grw.refl _ _, rfl⟩
    · intro az wz hx hB hk H
      obtain ⟨v45, h45, s45⟩ := H 8 rfl _ rfl 45 rfl
      obtain ⟨v51, h51, s51⟩ := H 14 rfl _ rfl 51 rfl
      have g0 : az.tmps[45]? = some (.bool true) := by rw [h45]; exact congrArg some s45
      refine .inl ⟨wanted_yes _ rfl rfl rfl g0, ?_⟩
      exact gives_cell rfl (by rw [ev h51]; exact s51) Tryd.underlying22 ((R2.out.ext hx.below).cell (i := 0) rfl) ⟨Grw.refl _ _, rfl⟩
    · intro az wz hx hB hk H
      obtain ⟨v45, h45, s45⟩ := H 8 rfl _ rfl 45 rfl
      obtain ⟨v52, h52, s52⟩ := H 15 rfl _ rfl 52 rfl
      have g0 : az.tmps[45]? = some (.bool true) := by rw [h45]; exact congrArg some s45
      refine .inl ⟨wanted_yes _ rfl rfl rfl g0, ?_⟩
      refine gives_call rfl Tryd.call12 (by simp only [List.map_toArray, List.map_cons, List.map_nil, ev h52]; rw [s52]) ?_
      exact (KU.out wz).mono fun _ _ h => h.grw hB
    · intro az wz hx hB hk H
      obtain ⟨v45, h45, s45⟩ := H 8 rfl _ rfl 45 rfl
      have g0 : az.tmps[45]? = some (.bool true) := by rw [h45]; exact congrArg some s45
      refine .inl ⟨wanted_yes _ rfl rfl rfl g0, ?_⟩
      exact gives_field rfl (by rw [(ev (show az.tmps[6]? = some (.pointer (some ⟨g6, 0, none⟩)) from hk 6 rfl))]) (run_f1 _ _) ⟨Grw.refl _ _, rfl⟩
    · intro az wz hx hB hk H
      obtain ⟨v45, h45, s45⟩ := H 8 rfl _ rfl 45 rfl
      obtain ⟨v54, h54, s54⟩ := H 17 rfl _ rfl 54 rfl
      have g0 : az.tmps[45]? = some (.bool true) := by rw [h45]; exact congrArg some s45
      refine .inl ⟨wanted_yes _ rfl rfl rfl g0, ?_⟩
      exact gives_cell rfl (by rw [ev h54]; exact s54) Tryd.underlying3 ((R2.out.ext hx.below).cell (i := 1) rfl) ⟨Grw.refl _ _, rfl⟩
    · intro az wz hx hB hk H
      obtain ⟨v45, h45, s45⟩ := H 8 rfl _ rfl 45 rfl
      obtain ⟨v48, h48, s48⟩ := H 11 rfl _ rfl 48 rfl
      obtain ⟨v50, h50, s50⟩ := H 13 rfl _ rfl 50 rfl
      obtain ⟨v53, h53, s53⟩ := H 16 rfl _ rfl 53 rfl
      obtain ⟨v55, h55, s55⟩ := H 18 rfl _ rfl 55 rfl
      have g0 : az.tmps[45]? = some (.bool true) := by rw [h45]; exact congrArg some s45
      refine .inl ⟨wanted_yes _ rfl rfl rfl g0, ?_⟩
      obtain ⟨A6, c6, rfl, hc6, hr6⟩ := s50
      obtain ⟨A8, c8, rfl, hc8, hr8⟩ := s53
      refine gives_call rfl Tryd.call10 (by simp only [List.map_toArray, List.map_cons, List.map_nil, ev h48, ev h50, ev h53, ev h55]; rw [s48, s55]) ?_
      exact (KR.out wz A6 A8 c6 c8 hr6 hr8).mono fun _ _ h => h.grw hB
    · intro az wz hx hB hk H
      obtain ⟨v45, h45, s45⟩ := H 8 rfl _ rfl 45 rfl
      obtain ⟨v47, h47, s47⟩ := H 10 rfl _ rfl 47 rfl
      obtain ⟨v56, h56, s56⟩ := H 19 rfl _ rfl 56 rfl
      have g0 : az.tmps[45]? = some (.bool true) := by rw [h45]; exact congrArg some s45
      refine .inl ⟨wanted_yes _ rfl rfl rfl g0, ?_⟩
      exact gives_eql_dig d o rfl HD.out HOL.out (by rw [ev h47]; exact s47) (by rw [ev h56]; exact s56) ⟨Grw.refl _ _, congrArg Value.bool HDO.out⟩
    · intro az wz hx hB hk H
      obtain ⟨v45, h45, s45⟩ := H 8 rfl _ rfl 45 rfl
      obtain ⟨v57, h57, s57⟩ := H 20 rfl _ rfl 57 rfl
      refine .inl ⟨wanted_none rfl, ?_⟩
      refine gives_pick true rfl ?_ ?_
      · rw [(ev h45)]
        exact s45
      · show Grw _ _ _ ∧ _
        rw [if_pos rfl, (ev h57)]
        exact ⟨Grw.refl _ _, s57⟩
    · intro az wz hx hB hk H
      obtain ⟨v58, h58, s58⟩ := H 21 rfl _ rfl 58 rfl
      refine .inl ⟨wanted_none rfl, ?_⟩
      refine gives_assign rfl ?_
      rw [(ev h58)]
      exact ⟨Grw.refl _ _, s58⟩
  · intro az wz hx hd hs hv hsame
    obtain ⟨v37, h37, s37⟩ := hv 0 _ 37 rfl rfl
    obtain rfl : v37 = (.pointer (some ⟨g6, 1, none⟩)) := s37
    obtain ⟨v38, h38, s38⟩ := hv 1 _ 38 rfl rfl
    obtain rfl : v38 = (.int .i64 r) := s38
    obtain ⟨v39, h39, s39⟩ := hv 2 _ 39 rfl rfl
    obtain rfl : v39 = (.bool true) := s39
    obtain ⟨v40, h40, s40⟩ := hv 3 _ 40 rfl rfl
    obtain rfl : v40 = (.bool true) := s40
    obtain ⟨v41, h41, s41⟩ := hv 4 _ 41 rfl rfl
    obtain rfl : v41 = (.pointer (some ⟨g6, 1, none⟩)) := s41
    obtain ⟨v42, h42, s42⟩ := hv 5 _ 42 rfl rfl
    obtain rfl : v42 = (.int .i64 r) := s42
    obtain ⟨v43, h43, s43⟩ := hv 6 _ 43 rfl rfl
    obtain rfl : v43 = (.bool true) := s43
    obtain ⟨v44, h44, s44⟩ := hv 7 _ 44 rfl rfl
    obtain rfl : v44 = (.bool true) := s44
    obtain ⟨v45, h45, s45⟩ := hv 8 _ 45 rfl rfl
    obtain rfl : v45 = (.bool true) := s45
    obtain ⟨v46, h46, s46⟩ := hv 9 _ 46 rfl rfl
    obtain rfl : v46 = (.pointer (some ⟨g6, 2, none⟩)) := s46
    obtain ⟨v47, h47, s47⟩ := hv 10 _ 47 rfl rfl
    obtain rfl : v47 = (.agg (bs d).toArray) := s47
    obtain ⟨v48, h48, s48⟩ := hv 11 _ 48 rfl rfl
    obtain rfl : v48 = (.agg (us tb).toArray) := s48
    obtain ⟨v49, h49, s49⟩ := hv 12 _ 49 rfl rfl
    obtain rfl : v49 = (.string p) := s49
    obtain ⟨v50, h50, s50⟩ := hv 13 _ 50 rfl rfl
    obtain ⟨v51, h51, s51⟩ := hv 14 _ 51 rfl rfl
    obtain rfl : v51 = (.pointer (some ⟨g6, 0, none⟩)) := s51
    obtain ⟨v52, h52, s52⟩ := hv 15 _ 52 rfl rfl
    obtain rfl : v52 = (.int .u64 a) := s52
    obtain ⟨v53, h53, s53⟩ := hv 16 _ 53 rfl rfl
    obtain ⟨v54, h54, s54⟩ := hv 17 _ 54 rfl rfl
    obtain rfl : v54 = (.pointer (some ⟨g6, 1, none⟩)) := s54
    obtain ⟨v55, h55, s55⟩ := hv 18 _ 55 rfl rfl
    obtain rfl : v55 = (.int .i64 r) := s55
    obtain ⟨v56, h56, s56⟩ := hv 19 _ 56 rfl rfl
    obtain rfl : v56 = (.agg (bs o).toArray) := s56
    obtain ⟨v57, h57, s57⟩ := hv 20 _ 57 rfl rfl
    obtain rfl : v57 = (.bool true) := s57
    obtain ⟨v58, h58, s58⟩ := hv 21 _ 58 rfl rfl
    obtain rfl : v58 = (.bool true) := s58
    obtain ⟨v11, h11, s11⟩ := hv 22 _ 11 rfl rfl
    obtain rfl : v11 = (.bool true) := s11
    have hfr := frame_last (k := 23) [(37, (.pointer (some ⟨g6, 1, none⟩))), (38, (.int .i64 r)), (39, (.bool true)), (40, (.bool true)), (41, (.pointer (some ⟨g6, 1, none⟩))), (42, (.int .i64 r)), (43, (.bool true)), (44, (.bool true)), (45, (.bool true)), (46, (.pointer (some ⟨g6, 2, none⟩))), (47, (.agg (bs d).toArray)), (48, (.agg (us tb).toArray)), (49, (.string p)), (50, v50), (51, (.pointer (some ⟨g6, 0, none⟩))), (52, (.int .u64 a)), (53, v53), (54, (.pointer (some ⟨g6, 1, none⟩))), (55, (.int .i64 r)), (56, (.agg (bs o).toArray)), (57, (.bool true)), (58, (.bool true)), (11, (.bool true))] hs (by kernel_rfl) (by simp only [List.forall_mem_cons, List.not_mem_nil, false_implies, implies_true, and_true]; exact ⟨h37, h38, h39, h40, h41, h42, h43, h44, h45, h46, h47, h48, h49, h50, h51, h52, h53, h54, h55, h56, h57, h58, h11⟩) (fun t' h => hsame t' fun i o ho => h i o (by intro e; subst e; cases ho) ho)
    simp only [List.foldl_cons, List.foldl_nil, List.setIfInBounds_toArray, List.set_cons_succ, List.set_cons_zero] at hfr
    obtain ⟨tm, df⟩ := az
    simp only [] at hfr hd
    subst hfr hd
    clear hv hsame hs h37 h38 h39 h40 h41 h42 h43 h44 h45 h46 h47 h48 h49 h50 h51 h52 h53 h54 h55 h56 h57 h58 h11
    have X4 := hide (X2.out.trans hx.below)
    have R4 := hide (R2.out.ext hx.below)
    refine hK _ _ ?_
    clear hK
    have e0 := R4.out.cell (i := 0) rfl
    have e1 := R4.out.cell (i := 1) rfl
    go_upto_region 7 with fail
    go_upto_region 8 with (first
      | (go_at_call 9; (with_reducible refine (KM.out _ X4.out).mono ?_); rintro e w5 ⟨v5, rfl, hx5, rfl⟩; have X5 := hide (X4.out.trans hx5); have R5 := hide (R4.out.ext hx5); clear hx5)
      | ((with_reducible show wpList _ _ _ (⟨none, .store _ (.tmp 12) _, _, _, _, _⟩ :: _) _ _);
         refine wpList_store_sec rfl (.tmp 12) (.tmp 78) rfl w5.heap.size rfl a 3 o3 rfl 0 0 zer32 (heap_alloc_new w5 _) HOL3.out rfl ?_;
         intro w6 hr6 hl6;
         have X6 := hide ((X5.out.trans (Ext.alloc _ _)).laid hl6 X5.out.size);
         have S6 := hide hr6;
         have R6 := hide ((R5.out.alloc _).other hl6 (Nat.ne_of_lt R5.out.lt));
         clear hr6 hl6))
    clear e0 e1
    go_upto_region 9 with (first
      | (refine wpList_load_sec rfl (.tmp 12) rfl _ rfl a 3 o3 S6.out HOL3.out ?_)
      | (go_at_call 13; (with_reducible refine (KC2.out _ X6.out).mono ?_); rintro e w7 ⟨v7, rfl, hx7, rfl⟩; have X7 := hide (X6.out.trans hx7); have R7 := hide (R6.out.ext hx7); have S7 := hide (S6.out.ext hx7); clear hx7))
    rename_i hK2
    obtain ⟨g12, hg12⟩ : ∃ g, g = w5.heap.size := ⟨_, rfl⟩
    rw [← hg12] at S7 ⊢
    clear hg12
    refine wp_region_sp (Nat.le_refl _) [
        Sp.is (.agg (us tb).toArray),
        Sp.is (.string p),
        Sp.bytes p.data.toList,
        Sp.is (.pointer (some ⟨g6, 0, none⟩)),
        Sp.is (.int .u64 a),
        Sp.bytes (be64 a),
        Sp.is (.agg (bs o2).toArray),
        Sp.is (.pointer (some ⟨g12, 2, none⟩)),
        Sp.is (.agg (bs o3).toArray),
        Sp.is (.bool b),
        Sp.is (.bool b)] (by kernel_rfl) (by kernel_rfl) ?_ ?_
    · refine ⟨?_, ?_, ?_, ?_, ?_, ?_, ?_, ?_, ?_, ?_, ?_, trivial⟩
      · intro az wz hx hB hk H
        refine .inl ⟨wanted_none rfl, ?_⟩
        refine gives_call (args := #[]) rfl Tryd.call11 (by simp) ?_
        exact (KT.out wz).mono fun _ _ h => h.grw hB
      · intro az wz hx hB hk H
        refine .inl ⟨wanted_none rfl, ?_⟩
        refine gives_move rfl ?_
        rw [(ev (show az.tmps[0]? = some (.string p) from hk 0 rfl))]
        exact ⟨Grw.refl _ _, rfl⟩
      · intro az wz hx hB hk H
        obtain ⟨v88, h88, s88⟩ := H 1 rfl _ rfl 88 rfl
        refine .inl ⟨wanted_none rfl, ?_⟩
        exact gives_conv_str p rfl (by rw [ev h88]; exact s88) (fun v w' h1 h2 => ⟨Grw.of_ext h2 hB, h1⟩)
      · intro az wz hx hB hk H
        refine .inl ⟨wanted_none rfl, ?_⟩
        exact gives_field rfl (by rw [(ev (show az.tmps[6]? = some (.pointer (some ⟨g6, 0, none⟩)) from hk 6 rfl))]) (run_f0 _ _) ⟨Grw.refl _ _, rfl⟩
      · intro az wz hx hB hk H
        obtain ⟨v90, h90, s90⟩ := H 3 rfl _ rfl 90 rfl
        refine .inl ⟨wanted_none rfl, ?_⟩
        exact gives_cell rfl (by rw [ev h90]; exact s90) Tryd.underlying22 ((R7.out.ext hx.below).cell (i := 0) rfl) ⟨Grw.refl _ _, rfl⟩
      · intro az wz hx hB hk H
        obtain ⟨v91, h91, s91⟩ := H 4 rfl _ rfl 91 rfl
        refine .inl ⟨wanted_none rfl, ?_⟩
        refine gives_call rfl Tryd.call12 (by simp only [List.map_toArray, List.map_cons, List.map_nil, ev h91]; rw [s91]) ?_
        exact (KU.out wz).mono fun _ _ h => h.grw hB
      · intro az wz hx hB hk H
        obtain ⟨v87, h87, s87⟩ := H 0 rfl _ rfl 87 rfl
        obtain ⟨v89, h89, s89⟩ := H 2 rfl _ rfl 89 rfl
        obtain ⟨v92, h92, s92⟩ := H 5 rfl _ rfl 92 rfl
        refine .inl ⟨wanted_none rfl, ?_⟩
        obtain ⟨A6, c6, rfl, hc6, hr6⟩ := s89
        obtain ⟨A8, c8, rfl, hc8, hr8⟩ := s92
        refine gives_call rfl Tryd.call10 (by simp only [List.map_toArray, List.map_cons, List.map_nil, ev h87, ev h89, ev h92]; rw [s87]) ?_
        exact (KR3.out wz A6 A8 c6 c8 hr6 hr8).mono fun _ _ h => h.grw hB
      · intro az wz hx hB hk H
        refine .inl ⟨wanted_none rfl, ?_⟩
        exact gives_field rfl (by rw [(ev (show az.tmps[12]? = some (.pointer (some ⟨g12, 0, none⟩)) from hk 12 rfl))]) (run_fd _ _) ⟨Grw.refl _ _, rfl⟩
      · intro az wz hx hB hk H
        obtain ⟨v94, h94, s94⟩ := H 7 rfl _ rfl 94 rfl
        refine .inl ⟨wanted_none rfl, ?_⟩
        exact gives_load_dig g12 o3 rfl (by rw [ev h94]; exact s94) (sec_cells (S7.out.ext hx.below)) HOL3.out ⟨Grw.refl _ _, rfl⟩
      · intro az wz hx hB hk H
        obtain ⟨v93, h93, s93⟩ := H 6 rfl _ rfl 93 rfl
        obtain ⟨v95, h95, s95⟩ := H 8 rfl _ rfl 95 rfl
        refine .inl ⟨wanted_none rfl, ?_⟩
        exact gives_eql_dig o2 o3 rfl HOL2.out HOL3.out (by rw [ev h93]; exact s93) (by rw [ev h95]; exact s95) ⟨Grw.refl _ _, congrArg Value.bool HB.out⟩
      · intro az wz hx hB hk H
        obtain ⟨v96, h96, s96⟩ := H 9 rfl _ rfl 96 rfl
        refine .inl ⟨wanted_none rfl, ?_⟩
        refine gives_assign rfl ?_
        rw [(ev h96)]
        exact ⟨Grw.refl _ _, s96⟩
    · intro az wz hx hd hs hv hsame
      obtain ⟨v87, h87, s87⟩ := hv 0 _ 87 rfl rfl
      obtain rfl : v87 = (.agg (us tb).toArray) := s87
      obtain ⟨v88, h88, s88⟩ := hv 1 _ 88 rfl rfl
      obtain rfl : v88 = (.string p) := s88
      obtain ⟨v89, h89, s89⟩ := hv 2 _ 89 rfl rfl
      obtain ⟨v90, h90, s90⟩ := hv 3 _ 90 rfl rfl
      obtain rfl : v90 = (.pointer (some ⟨g6, 0, none⟩)) := s90
      obtain ⟨v91, h91, s91⟩ := hv 4 _ 91 rfl rfl
      obtain rfl : v91 = (.int .u64 a) := s91
      obtain ⟨v92, h92, s92⟩ := hv 5 _ 92 rfl rfl
      obtain ⟨v93, h93, s93⟩ := hv 6 _ 93 rfl rfl
      obtain rfl : v93 = (.agg (bs o2).toArray) := s93
      obtain ⟨v94, h94, s94⟩ := hv 7 _ 94 rfl rfl
      obtain rfl : v94 = (.pointer (some ⟨g12, 2, none⟩)) := s94
      obtain ⟨v95, h95, s95⟩ := hv 8 _ 95 rfl rfl
      obtain rfl : v95 = (.agg (bs o3).toArray) := s95
      obtain ⟨v96, h96, s96⟩ := hv 9 _ 96 rfl rfl
      obtain rfl : v96 = (.bool b) := s96
      obtain ⟨v16, h16, s16⟩ := hv 10 _ 16 rfl rfl
      obtain rfl : v16 = (.bool b) := s16
      have hfr := frame_last (k := 11) [(87, (.agg (us tb).toArray)), (88, (.string p)), (89, v89), (90, (.pointer (some ⟨g6, 0, none⟩))), (91, (.int .u64 a)), (92, v92), (93, (.agg (bs o2).toArray)), (94, (.pointer (some ⟨g12, 2, none⟩))), (95, (.agg (bs o3).toArray)), (96, (.bool b)), (16, (.bool b))] hs (by kernel_rfl) (by simp only [List.forall_mem_cons, List.not_mem_nil, false_implies, implies_true, and_true]; exact ⟨h87, h88, h89, h90, h91, h92, h93, h94, h95, h96, h16⟩) (fun t' h => hsame t' fun i o ho => h i o (by intro e; subst e; cases ho) ho)
      simp only [List.foldl_cons, List.foldl_nil, List.setIfInBounds_toArray, List.set_cons_succ, List.set_cons_zero] at hfr
      obtain ⟨tm, df⟩ := az
      simp only [] at hfr hd
      subst hfr hd
      clear hv hsame hs h87 h88 h89 h90 h91 h92 h93 h94 h95 h96 h16
      have X9 := hide (X7.out.trans hx.below)
      have S9 := hide (S7.out.ext hx.below)
      refine hK2 _ _ ?_
      clear hK2
      go_wp2_with (first
        | (refine wpList_load_sec rfl (.tmp 12) rfl _ rfl a 3 o3 S9.out HOL3.out ?_)
        | (go_at_call 13; (with_reducible refine (KC3.out _ X9.out).mono ?_); rintro e w10 ⟨v10, rfl, hx10, rfl⟩; have X10 := hide (X9.out.trans hx10); clear hx10))
      go_ret
      exact Ret.mk X10.out rfl
set_option maxRecDepth 20000 in
set_option maxHeartbeats 6400000 in
theorem checks_wrong (p q : ByteArray) (a r : Int) (d : List UInt8) (n : Int) (w : World) (hsm : p.size + q.size ≤ 1000) (ha : 0 ≤ a ∧ a < 18446744073709551616) (hd : d.length = 32) (h1 : ¬ r < 1) (h2 : ¬ 64 < r) (hk : okR r = true) (hb : (strU p.data.toList (be64 a) r == d) = false) (ht : Tab w) :
    Calls Tryd.prog 4 #[.string p, .string q, .agg (sec a r d).toArray, .int .i64 n] w (Ret w (Is (.bool true))) := by
  have KA := hide fun W (h : Ext w W) => awake_any W (ht.ext h)
  have hbi : ¬ (1000 : Int) < (p.size : Int) + (q.size : Int) := by omega
  have hp0 : (p.size : Int) ≤ 1000 := by omega
  have hq0 : (q.size : Int) ≤ 1000 := by omega
  have hpl : p.data.toList.length ≤ 1000000 := by rw [show p.data.toList.length = p.size by rw [Array.length_toList]; rfl]; omega
  have hk3 : okR 3 = true := rfl
  have HD := hide hd
  obtain ⟨o, HO⟩ : ∃ o, Hid (strU p.data.toList (be64 a) r = o) := ⟨_, hide rfl⟩
  have HOL : Hid (o.length = 32) := hide (by rw [← HO.out]; exact strU_len _ _ _)
  obtain ⟨o2, HO2⟩ : ∃ o, Hid (strU p.data.toList (be64 a) 3 = o) := ⟨_, hide rfl⟩
  have HOL2 : Hid (o2.length = 32) := hide (by rw [← HO2.out]; exact strU_len _ _ _)
  obtain ⟨o3, HO3⟩ : ∃ o, Hid (strU q.data.toList (be64 a) 3 = o) := ⟨_, hide rfl⟩
  have HOL3 : Hid (o3.length = 32) := hide (by rw [← HO3.out]; exact strU_len _ _ _)
  obtain ⟨b, HB⟩ : ∃ b, Hid ((o2 == o3) = b) := ⟨_, hide rfl⟩
  obtain ⟨b2, HB2⟩ : ∃ b2, Hid (lsT b 3 n = b2) := ⟨_, hide rfl⟩
  obtain ⟨tb, htb⟩ : ∃ tb, Hid (tb = startW ++ roundW) := ⟨_, hide rfl⟩
  have hch : chkV p.data.toList a r d = false := by unfold chkV; rw [hk, hb]; rfl
  have HDO : Hid ((d == o) = false) := hide (by rw [← HO.out, Bool.beq_comm]; exact hb)
  have KC := hide fun W (h : Ext w W) => (show Calls Tryd.prog 13 #[.agg (sec a r d).toArray, .string p, .int .i64 n] W (Ret W (Is (.tuple #[.bool false, .bool false]))) from (by
    have h3 := check_any a r d p n W ha hd (by omega) (ht.ext h)
    rw [hch] at h3
    exact h3))
  have KM := hide fun W (h : Ext w W) => (show Calls Tryd.prog 9 #[.string q, .int .u64 a, .int .i64 3] W (Ret W (Is (.tuple #[.agg (sec a 3 o3).toArray, .int .i64 0]))) from (by
    have h3 := make_any q a 3 W ha (by omega) (ht.ext h)
    rw [mkV_ok hk3, errR_ok hk3, HO3.out] at h3
    exact h3))
  have KC2 := hide fun W (h : Ext w W) => (show Calls Tryd.prog 13 #[.agg (sec a 3 o3).toArray, .string q, .int .i64 n] W (Ret W (Is (.tuple #[.bool true, .bool (decide (3 < n))]))) from (by
    have h3 := check_any a 3 o3 q n W ha HOL3.out (by omega) (ht.ext h)
    have e : chkV q.data.toList a 3 o3 = true := by unfold chkV; rw [hk3, HO3.out, beq_self_eq_true]; rfl
    rw [e] at h3
    exact h3))
  have KC3 := hide fun W (h : Ext w W) => (show Calls Tryd.prog 13 #[.agg (sec a 3 o3).toArray, .string p, .int .i64 n] W (Ret W (Is (.tuple #[.bool b, .bool b2]))) from (by
    have h3 := check_any a 3 o3 p n W ha HOL3.out (by omega) (ht.ext h)
    have e : chkV p.data.toList a 3 o3 = b := by unfold chkV; rw [hk3, HO2.out, HB.out]; rfl
    rw [e, HB2.out] at h3
    exact h3))
  have KT := hide fun W => (show Calls Tryd.prog 11 #[] W (Ret W (Is (.agg (us tb).toArray))) from (by
    rw [htb.out]
    exact rmake_any W))
  have KU := hide fun W => ruint_any a W ha.1 ha.2
  have KR := hide fun W (A B : Option Addr) (c d : Nat) (hA : Rd W A p.data.toList) (hB : Rd W B (be64 a)) => (show Calls Tryd.prog 10 #[.agg (us tb).toArray, .slice A p.data.toList.length c, .slice B (be64 a).length d, .int .i64 r] W (Ret W (Is (.agg (bs o).toArray))) from (by
    have h3 := rstretch_u tb htb A B c d p.data.toList (be64 a) r W hA hB hpl (by show 8 ≤ 1000000; decide) hk
    rw [HO.out] at h3
    exact h3))
  have KR3 := hide fun W (A B : Option Addr) (c d : Nat) (hA : Rd W A p.data.toList) (hB : Rd W B (be64 a)) => (show Calls Tryd.prog 10 #[.agg (us tb).toArray, .slice A p.data.toList.length c, .slice B (be64 a).length d, .int .i64 3] W (Ret W (Is (.agg (bs o2).toArray))) from (by
    have h3 := rstretch_u tb htb A B c d p.data.toList (be64 a) 3 W hA hB hpl (by show 8 ≤ 1000000; decide) hk3
    rw [HO2.out] at h3
    exact h3))
  obtain ⟨W0, hX0, hR0, hgg⟩ : ∃ W0, Ext w W0 ∧ Rw W0 w.heap.size 26 (sec a r d) ∧ w.alloc (.cells (sec a r d).toArray 26) = W0 := ⟨_, Ext.alloc _ _, Rw.new w 26 _, rfl⟩
  have X0 := hide hX0
  have R0 := hide hR0
  obtain ⟨g6, hg6⟩ : ∃ g, g = w.heap.size := ⟨_, rfl⟩
  clear hX0 hR0 ht hd hpl hch HO HO2 HO3 HB2 hsm hk hb
  go_enter Tryd.func4, Tryd.ntmps4
  go_upto_region 1 with fail
  clear hgg
  go_upto_region 4 with (first
    | (go_at_call 8; (with_reducible refine (KA.out _ X0.out).mono ?_); rintro e w1 ⟨v1, rfl, hx1, rfl⟩; have X1 := hide (X0.out.trans hx1); have R1 := hide (R0.out.ext hx1); clear hx1)
    | (refine wpList_load_sec rfl (.tmp 6) rfl _ rfl a r d R1.out HD.out ?_)
    | (go_at_call 13; (with_reducible refine (KC.out _ X1.out).mono ?_); rintro e w2 ⟨v2, rfl, hx2, rfl⟩; have X2 := hide (X1.out.trans hx2); have R2 := hide (R1.out.ext hx2); clear hx2))
  rename_i hK
  rw [← hg6] at R2 ⊢
  clear hg6
  refine wp_region_sp (Nat.le_refl _) [
      Sp.is (.pointer (some ⟨g6, 1, none⟩)),
      Sp.is (.int .i64 r),
      Sp.is (.bool true),
      Sp.is (.bool true),
      Sp.is (.pointer (some ⟨g6, 1, none⟩)),
      Sp.is (.int .i64 r),
      Sp.is (.bool true),
      Sp.is (.bool true),
      Sp.is (.bool true),
      Sp.is (.pointer (some ⟨g6, 2, none⟩)),
      Sp.is (.agg (bs d).toArray),
      Sp.is (.agg (us tb).toArray),
      Sp.is (.string p),
      Sp.bytes p.data.toList,
      Sp.is (.pointer (some ⟨g6, 0, none⟩)),
      Sp.is (.int .u64 a),
      Sp.bytes (be64 a),
      Sp.is (.pointer (some ⟨g6, 1, none⟩)),
      Sp.is (.int .i64 r),
      Sp.is (.agg (bs o).toArray),
      Sp.is (.bool false),
      Sp.is (.bool false),
      Sp.is (.bool false)] (by kernel_rfl) (by kernel_rfl) ?_ ?_
  · refine ⟨?_, ?_, ?_, ?_, ?_, ?_, ?_, ?_, ?_, ?_, ?_, ?_, ?_, ?_, ?_, ?_, ?_, ?_, ?_, ?_, ?_, ?_, ?_, trivial⟩
    · intro az wz hx hB hk H
      refine .inl ⟨wanted_none rfl, ?_⟩
      exact gives_field rfl (by rw [(ev (show az.tmps[6]? = some (.pointer (some ⟨g6, 0, none⟩)) from hk 6 rfl))]) (run_f1 _ _) ⟨Grw.refl _ _, rfl⟩
    · intro az wz hx hB hk H
      obtain ⟨v37, h37, s37⟩ := H 0 rfl _ rfl 37 rfl
      refine .inl ⟨wanted_none rfl, ?_⟩
      exact gives_cell rfl (by rw [ev h37]; exact s37) Tryd.underlying3 ((R2.out.ext hx.below).cell (i := 1) rfl) ⟨Grw.refl _ _, rfl⟩
    · intro az wz hx hB hk H
      obtain ⟨v38, h38, s38⟩ := H 1 rfl _ rfl 38 rfl
      refine .inl ⟨wanted_none rfl, ?_⟩
      exact gives_geq_int (k := .i64) r 1 rfl (by rw [ev h38]; exact s38) rfl ⟨Grw.refl _ _, congrArg Value.bool (decide_eq_true (by omega))⟩
    · intro az wz hx hB hk H
      obtain ⟨v39, h39, s39⟩ := H 2 rfl _ rfl 39 rfl
      refine .inl ⟨wanted_none rfl, ?_⟩
      refine gives_move rfl ?_
      rw [(ev h39)]
      exact ⟨Grw.refl _ _, s39⟩
    · intro az wz hx hB hk H
      obtain ⟨v40, h40, s40⟩ := H 3 rfl _ rfl 40 rfl
      have g0 : az.tmps[40]? = some (.bool true) := by rw [h40]; exact congrArg some s40
      refine .inl ⟨wanted_yes _ rfl rfl rfl g0, ?_⟩
      exact gives_field rfl (by rw [(ev (show az.tmps[6]? = some (.pointer (some ⟨g6, 0, none⟩)) from hk 6 rfl))]) (run_f1 _ _) ⟨Grw.refl _ _, rfl⟩
    · intro az wz hx hB hk H
      obtain ⟨v40, h40, s40⟩ := H 3 rfl _ rfl 40 rfl
      obtain ⟨v41, h41, s41⟩ := H 4 rfl _ rfl 41 rfl
      have g0 : az.tmps[40]? = some (.bool true) := by rw [h40]; exact congrArg some s40
      refine .inl ⟨wanted_yes _ rfl rfl rfl g0, ?_⟩
      exact gives_cell rfl (by rw [ev h41]; exact s41) Tryd.underlying3 ((R2.out.ext hx.below).cell (i := 1) rfl) ⟨Grw.refl _ _, rfl⟩
    · intro az wz hx hB hk H
      obtain ⟨v40, h40, s40⟩ := H 3 rfl _ rfl 40 rfl
      obtain ⟨v42, h42, s42⟩ := H 5 rfl _ rfl 42 rfl
      have g0 : az.tmps[40]? = some (.bool true) := by rw [h40]; exact congrArg some s40
      refine .inl ⟨wanted_yes _ rfl rfl rfl g0, ?_⟩
      exact gives_leq_int (k := .i64) r 64 rfl (by rw [ev h42]; exact s42) rfl ⟨Grw.refl _ _, congrArg Value.bool (decide_eq_true (by omega))⟩
    · intro az wz hx hB hk H
      obtain ⟨v40, h40, s40⟩ := H 3 rfl _ rfl 40 rfl
      obtain ⟨v43, h43, s43⟩ := H 6 rfl _ rfl 43 rfl
      refine .inl ⟨wanted_none rfl, ?_⟩
      refine gives_pick true rfl ?_ ?_
      · rw [(ev h40)]
        exact s40
      · show Grw _ _ _ ∧ _
        rw [if_pos rfl, (ev h43)]
        exact ⟨Grw.refl _ _, s43⟩
    · intro az wz hx hB hk H
      obtain ⟨v44, h44, s44⟩ := H 7 rfl _ rfl 44 rfl
      refine .inl ⟨wanted_none rfl, ?_⟩
      refine gives_move rfl ?_
      rw [(ev h44)]
      exact ⟨Grw.refl _ _, s44⟩
    · intro az wz hx hB hk H
      obtain ⟨v45, h45, s45⟩ := H 8 rfl _ rfl 45 rfl
      have g0 : az.tmps[45]? = some (.bool true) := by rw [h45]; exact congrArg some s45
      refine .inl ⟨wanted_yes _ rfl rfl rfl g0, ?_⟩
      exact gives_field rfl (by rw [(ev (show az.tmps[6]? = some (.pointer (some ⟨g6, 0, none⟩)) from hk 6 rfl))]) (run_fd _ _) ⟨Grw.refl _ _, rfl⟩
    · intro az wz hx hB hk H
      obtain ⟨v45, h45, s45⟩ := H 8 rfl _ rfl 45 rfl
      obtain ⟨v46, h46, s46⟩ := H 9 rfl _ rfl 46 rfl
      have g0 : az.tmps[45]? = some (.bool true) := by rw [h45]; exact congrArg some s45
      refine .inl ⟨wanted_yes _ rfl rfl rfl g0, ?_⟩
      exact gives_load_dig g6 d rfl (by rw [ev h46]; exact s46) (sec_cells (R2.out.ext hx.below)) HD.out ⟨Grw.refl _ _, rfl⟩
    · intro az wz hx hB hk H
      obtain ⟨v45, h45, s45⟩ := H 8 rfl _ rfl 45 rfl
      have g0 : az.tmps[45]? = some (.bool true) := by rw [h45]; exact congrArg some s45
      refine .inl ⟨wanted_yes _ rfl rfl rfl g0, ?_⟩
      refine gives_call (args := #[]) rfl Tryd.call11 (by simp) ?_
      exact (KT.out wz).mono fun _ _ h => h.grw hB
    · intro az wz hx hB hk H
      obtain ⟨v45, h45, s45⟩ := H 8 rfl _ rfl 45 rfl
      have g0 : az.tmps[45]? = some (.bool true) := by rw [h45]; exact congrArg some s45
      refine .inl ⟨wanted_yes _ rfl rfl rfl g0, ?_⟩
      refine gives_move rfl ?_
      rw [(ev (show az.tmps[0]? = some (.string p) from hk 0 rfl))]
      exact ⟨Grw.refl _ _, rfl⟩
    · intro az wz hx hB hk H
      obtain ⟨v45, h45, s45⟩ := H 8 rfl _ rfl 45 rfl
      obtain ⟨v49, h49, s49⟩ := H 12 rfl _ rfl 49 rfl
      have g0 : az.tmps[45]? = some (.bool true) := by rw [h45]; exact congrArg some s45
      refine .inl ⟨wanted_yes _ rfl rfl rfl g0, ?_⟩
      exact gives_conv_str p rfl (by rw [ev h49]; exact s49) (fun v w' h1 h2 => ⟨Grw.of_ext h2 hB, h1⟩)
    · intro az wz hx hB hk H
      obtain ⟨v45, h45, s45⟩ := H 8 rfl _ rfl 45 rfl
      have g0 : az.tmps[45]? = some (.bool true) := by rw [h45]; exact congrArg some s45
      refine .inl ⟨wanted_yes _ rfl rfl rfl g0, ?_⟩
      exact gives_field rfl (by rw [(ev (show az.tmps[6]? = some (.pointer (some ⟨g6, 0, none⟩)) from hk 6 rfl))]) (run_f0 _ _) ⟨Grw.refl _ _, rfl⟩
    · intro az wz hx hB hk H
      obtain ⟨v45, h45, s45⟩ := H 8 rfl _ rfl 45 rfl
      obtain ⟨v51, h51, s51⟩ := H 14 rfl _ rfl 51 rfl
      have g0 : az.tmps[45]? = some (.bool true) := by rw [h45]; exact congrArg some s45
      refine .inl ⟨wanted_yes _ rfl rfl rfl g0, ?_⟩
      exact gives_cell rfl (by rw [ev h51]; exact s51) Tryd.underlying22 ((R2.out.ext hx.below).cell (i := 0) rfl) ⟨Grw.refl _ _, rfl⟩
    · intro az wz hx hB hk H
      obtain ⟨v45, h45, s45⟩ := H 8 rfl _ rfl 45 rfl
      obtain ⟨v52, h52, s52⟩ := H 15 rfl _ rfl 52 rfl
      have g0 : az.tmps[45]? = some (.bool true) := by rw [h45]; exact congrArg some s45
      refine .inl ⟨wanted_yes _ rfl rfl rfl g0, ?_⟩
      refine gives_call rfl Tryd.call12 (by simp only [List.map_toArray, List.map_cons, List.map_nil, ev h52]; rw [s52]) ?_
      exact (KU.out wz).mono fun _ _ h => h.grw hB
    · intro az wz hx hB hk H
      obtain ⟨v45, h45, s45⟩ := H 8 rfl _ rfl 45 rfl
      have g0 : az.tmps[45]? = some (.bool true) := by rw [h45]; exact congrArg some s45
      refine .inl ⟨wanted_yes _ rfl rfl rfl g0, ?_⟩
      exact gives_field rfl (by rw [(ev (show az.tmps[6]? = some (.pointer (some ⟨g6, 0, none⟩)) from hk 6 rfl))]) (run_f1 _ _) ⟨Grw.refl _ _, rfl⟩
    · intro az wz hx hB hk H
      obtain ⟨v45, h45, s45⟩ := H 8 rfl _ rfl 45 rfl
      obtain ⟨v54, h54, s54⟩ := H 17 rfl _ rfl 54 rfl
      have g0 : az.tmps[45]? = some (.bool true) := by rw [h45]; exact congrArg some s45
      refine .inl ⟨wanted_yes _ rfl rfl rfl g0, ?_⟩
      exact gives_cell rfl (by rw [ev h54]; exact s54) Tryd.underlying3 ((R2.out.ext hx.below).cell (i := 1) rfl) ⟨Grw.refl _ _, rfl⟩
    · intro az wz hx hB hk H
      obtain ⟨v45, h45, s45⟩ := H 8 rfl _ rfl 45 rfl
      obtain ⟨v48, h48, s48⟩ := H 11 rfl _ rfl 48 rfl
      obtain ⟨v50, h50, s50⟩ := H 13 rfl _ rfl 50 rfl
      obtain ⟨v53, h53, s53⟩ := H 16 rfl _ rfl 53 rfl
      obtain ⟨v55, h55, s55⟩ := H 18 rfl _ rfl 55 rfl
      have g0 : az.tmps[45]? = some (.bool true) := by rw [h45]; exact congrArg some s45
      refine .inl ⟨wanted_yes _ rfl rfl rfl g0, ?_⟩
      obtain ⟨A6, c6, rfl, hc6, hr6⟩ := s50
      obtain ⟨A8, c8, rfl, hc8, hr8⟩ := s53
      refine gives_call rfl Tryd.call10 (by simp only [List.map_toArray, List.map_cons, List.map_nil, ev h48, ev h50, ev h53, ev h55]; rw [s48, s55]) ?_
      exact (KR.out wz A6 A8 c6 c8 hr6 hr8).mono fun _ _ h => h.grw hB
    · intro az wz hx hB hk H
      obtain ⟨v45, h45, s45⟩ := H 8 rfl _ rfl 45 rfl
      obtain ⟨v47, h47, s47⟩ := H 10 rfl _ rfl 47 rfl
      obtain ⟨v56, h56, s56⟩ := H 19 rfl _ rfl 56 rfl
      have g0 : az.tmps[45]? = some (.bool true) := by rw [h45]; exact congrArg some s45
      refine .inl ⟨wanted_yes _ rfl rfl rfl g0, ?_⟩
      exact gives_eql_dig d o rfl HD.out HOL.out (by rw [ev h47]; exact s47) (by rw [ev h56]; exact s56) ⟨Grw.refl _ _, congrArg Value.bool HDO.out⟩
    · intro az wz hx hB hk H
      obtain ⟨v45, h45, s45⟩ := H 8 rfl _ rfl 45 rfl
      obtain ⟨v57, h57, s57⟩ := H 20 rfl _ rfl 57 rfl
      refine .inl ⟨wanted_none rfl, ?_⟩
      refine gives_pick true rfl ?_ ?_
      · rw [(ev h45)]
        exact s45
      · show Grw _ _ _ ∧ _
        rw [if_pos rfl, (ev h57)]
        exact ⟨Grw.refl _ _, s57⟩
    · intro az wz hx hB hk H
      obtain ⟨v58, h58, s58⟩ := H 21 rfl _ rfl 58 rfl
      refine .inl ⟨wanted_none rfl, ?_⟩
      refine gives_assign rfl ?_
      rw [(ev h58)]
      exact ⟨Grw.refl _ _, s58⟩
  · intro az wz hx hd hs hv hsame
    obtain ⟨v37, h37, s37⟩ := hv 0 _ 37 rfl rfl
    obtain rfl : v37 = (.pointer (some ⟨g6, 1, none⟩)) := s37
    obtain ⟨v38, h38, s38⟩ := hv 1 _ 38 rfl rfl
    obtain rfl : v38 = (.int .i64 r) := s38
    obtain ⟨v39, h39, s39⟩ := hv 2 _ 39 rfl rfl
    obtain rfl : v39 = (.bool true) := s39
    obtain ⟨v40, h40, s40⟩ := hv 3 _ 40 rfl rfl
    obtain rfl : v40 = (.bool true) := s40
    obtain ⟨v41, h41, s41⟩ := hv 4 _ 41 rfl rfl
    obtain rfl : v41 = (.pointer (some ⟨g6, 1, none⟩)) := s41
    obtain ⟨v42, h42, s42⟩ := hv 5 _ 42 rfl rfl
    obtain rfl : v42 = (.int .i64 r) := s42
    obtain ⟨v43, h43, s43⟩ := hv 6 _ 43 rfl rfl
    obtain rfl : v43 = (.bool true) := s43
    obtain ⟨v44, h44, s44⟩ := hv 7 _ 44 rfl rfl
    obtain rfl : v44 = (.bool true) := s44
    obtain ⟨v45, h45, s45⟩ := hv 8 _ 45 rfl rfl
    obtain rfl : v45 = (.bool true) := s45
    obtain ⟨v46, h46, s46⟩ := hv 9 _ 46 rfl rfl
    obtain rfl : v46 = (.pointer (some ⟨g6, 2, none⟩)) := s46
    obtain ⟨v47, h47, s47⟩ := hv 10 _ 47 rfl rfl
    obtain rfl : v47 = (.agg (bs d).toArray) := s47
    obtain ⟨v48, h48, s48⟩ := hv 11 _ 48 rfl rfl
    obtain rfl : v48 = (.agg (us tb).toArray) := s48
    obtain ⟨v49, h49, s49⟩ := hv 12 _ 49 rfl rfl
    obtain rfl : v49 = (.string p) := s49
    obtain ⟨v50, h50, s50⟩ := hv 13 _ 50 rfl rfl
    obtain ⟨v51, h51, s51⟩ := hv 14 _ 51 rfl rfl
    obtain rfl : v51 = (.pointer (some ⟨g6, 0, none⟩)) := s51
    obtain ⟨v52, h52, s52⟩ := hv 15 _ 52 rfl rfl
    obtain rfl : v52 = (.int .u64 a) := s52
    obtain ⟨v53, h53, s53⟩ := hv 16 _ 53 rfl rfl
    obtain ⟨v54, h54, s54⟩ := hv 17 _ 54 rfl rfl
    obtain rfl : v54 = (.pointer (some ⟨g6, 1, none⟩)) := s54
    obtain ⟨v55, h55, s55⟩ := hv 18 _ 55 rfl rfl
    obtain rfl : v55 = (.int .i64 r) := s55
    obtain ⟨v56, h56, s56⟩ := hv 19 _ 56 rfl rfl
    obtain rfl : v56 = (.agg (bs o).toArray) := s56
    obtain ⟨v57, h57, s57⟩ := hv 20 _ 57 rfl rfl
    obtain rfl : v57 = (.bool false) := s57
    obtain ⟨v58, h58, s58⟩ := hv 21 _ 58 rfl rfl
    obtain rfl : v58 = (.bool false) := s58
    obtain ⟨v11, h11, s11⟩ := hv 22 _ 11 rfl rfl
    obtain rfl : v11 = (.bool false) := s11
    have hfr := frame_last (k := 23) [(37, (.pointer (some ⟨g6, 1, none⟩))), (38, (.int .i64 r)), (39, (.bool true)), (40, (.bool true)), (41, (.pointer (some ⟨g6, 1, none⟩))), (42, (.int .i64 r)), (43, (.bool true)), (44, (.bool true)), (45, (.bool true)), (46, (.pointer (some ⟨g6, 2, none⟩))), (47, (.agg (bs d).toArray)), (48, (.agg (us tb).toArray)), (49, (.string p)), (50, v50), (51, (.pointer (some ⟨g6, 0, none⟩))), (52, (.int .u64 a)), (53, v53), (54, (.pointer (some ⟨g6, 1, none⟩))), (55, (.int .i64 r)), (56, (.agg (bs o).toArray)), (57, (.bool false)), (58, (.bool false)), (11, (.bool false))] hs (by kernel_rfl) (by simp only [List.forall_mem_cons, List.not_mem_nil, false_implies, implies_true, and_true]; exact ⟨h37, h38, h39, h40, h41, h42, h43, h44, h45, h46, h47, h48, h49, h50, h51, h52, h53, h54, h55, h56, h57, h58, h11⟩) (fun t' h => hsame t' fun i o ho => h i o (by intro e; subst e; cases ho) ho)
    simp only [List.foldl_cons, List.foldl_nil, List.setIfInBounds_toArray, List.set_cons_succ, List.set_cons_zero] at hfr
    obtain ⟨tm, df⟩ := az
    simp only [] at hfr hd
    subst hfr hd
    clear hv hsame hs h37 h38 h39 h40 h41 h42 h43 h44 h45 h46 h47 h48 h49 h50 h51 h52 h53 h54 h55 h56 h57 h58 h11
    have X4 := hide (X2.out.trans hx.below)
    have R4 := hide (R2.out.ext hx.below)
    refine hK _ _ ?_
    clear hK
    have e0 := R4.out.cell (i := 0) rfl
    have e1 := R4.out.cell (i := 1) rfl
    go_upto_region 7 with fail
    go_upto_region 8 with (first
      | (go_at_call 9; (with_reducible refine (KM.out _ X4.out).mono ?_); rintro e w5 ⟨v5, rfl, hx5, rfl⟩; have X5 := hide (X4.out.trans hx5); have R5 := hide (R4.out.ext hx5); clear hx5)
      | ((with_reducible show wpList _ _ _ (⟨none, .store _ (.tmp 12) _, _, _, _, _⟩ :: _) _ _);
         refine wpList_store_sec rfl (.tmp 12) (.tmp 78) rfl w5.heap.size rfl a 3 o3 rfl 0 0 zer32 (heap_alloc_new w5 _) HOL3.out rfl ?_;
         intro w6 hr6 hl6;
         have X6 := hide ((X5.out.trans (Ext.alloc _ _)).laid hl6 X5.out.size);
         have S6 := hide hr6;
         have R6 := hide ((R5.out.alloc _).other hl6 (Nat.ne_of_lt R5.out.lt));
         clear hr6 hl6))
    clear e0 e1
    go_upto_region 9 with (first
      | (refine wpList_load_sec rfl (.tmp 12) rfl _ rfl a 3 o3 S6.out HOL3.out ?_)
      | (go_at_call 13; (with_reducible refine (KC2.out _ X6.out).mono ?_); rintro e w7 ⟨v7, rfl, hx7, rfl⟩; have X7 := hide (X6.out.trans hx7); have R7 := hide (R6.out.ext hx7); have S7 := hide (S6.out.ext hx7); clear hx7))
    rename_i hK2
    obtain ⟨g12, hg12⟩ : ∃ g, g = w5.heap.size := ⟨_, rfl⟩
    rw [← hg12] at S7 ⊢
    clear hg12
    refine wp_region_sp (Nat.le_refl _) [
        Sp.is (.agg (us tb).toArray),
        Sp.is (.string p),
        Sp.bytes p.data.toList,
        Sp.is (.pointer (some ⟨g6, 0, none⟩)),
        Sp.is (.int .u64 a),
        Sp.bytes (be64 a),
        Sp.is (.agg (bs o2).toArray),
        Sp.is (.pointer (some ⟨g12, 2, none⟩)),
        Sp.is (.agg (bs o3).toArray),
        Sp.is (.bool b),
        Sp.is (.bool b)] (by kernel_rfl) (by kernel_rfl) ?_ ?_
    · refine ⟨?_, ?_, ?_, ?_, ?_, ?_, ?_, ?_, ?_, ?_, ?_, trivial⟩
      · intro az wz hx hB hk H
        refine .inl ⟨wanted_none rfl, ?_⟩
        refine gives_call (args := #[]) rfl Tryd.call11 (by simp) ?_
        exact (KT.out wz).mono fun _ _ h => h.grw hB
      · intro az wz hx hB hk H
        refine .inl ⟨wanted_none rfl, ?_⟩
        refine gives_move rfl ?_
        rw [(ev (show az.tmps[0]? = some (.string p) from hk 0 rfl))]
        exact ⟨Grw.refl _ _, rfl⟩
      · intro az wz hx hB hk H
        obtain ⟨v88, h88, s88⟩ := H 1 rfl _ rfl 88 rfl
        refine .inl ⟨wanted_none rfl, ?_⟩
        exact gives_conv_str p rfl (by rw [ev h88]; exact s88) (fun v w' h1 h2 => ⟨Grw.of_ext h2 hB, h1⟩)
      · intro az wz hx hB hk H
        refine .inl ⟨wanted_none rfl, ?_⟩
        exact gives_field rfl (by rw [(ev (show az.tmps[6]? = some (.pointer (some ⟨g6, 0, none⟩)) from hk 6 rfl))]) (run_f0 _ _) ⟨Grw.refl _ _, rfl⟩
      · intro az wz hx hB hk H
        obtain ⟨v90, h90, s90⟩ := H 3 rfl _ rfl 90 rfl
        refine .inl ⟨wanted_none rfl, ?_⟩
        exact gives_cell rfl (by rw [ev h90]; exact s90) Tryd.underlying22 ((R7.out.ext hx.below).cell (i := 0) rfl) ⟨Grw.refl _ _, rfl⟩
      · intro az wz hx hB hk H
        obtain ⟨v91, h91, s91⟩ := H 4 rfl _ rfl 91 rfl
        refine .inl ⟨wanted_none rfl, ?_⟩
        refine gives_call rfl Tryd.call12 (by simp only [List.map_toArray, List.map_cons, List.map_nil, ev h91]; rw [s91]) ?_
        exact (KU.out wz).mono fun _ _ h => h.grw hB
      · intro az wz hx hB hk H
        obtain ⟨v87, h87, s87⟩ := H 0 rfl _ rfl 87 rfl
        obtain ⟨v89, h89, s89⟩ := H 2 rfl _ rfl 89 rfl
        obtain ⟨v92, h92, s92⟩ := H 5 rfl _ rfl 92 rfl
        refine .inl ⟨wanted_none rfl, ?_⟩
        obtain ⟨A6, c6, rfl, hc6, hr6⟩ := s89
        obtain ⟨A8, c8, rfl, hc8, hr8⟩ := s92
        refine gives_call rfl Tryd.call10 (by simp only [List.map_toArray, List.map_cons, List.map_nil, ev h87, ev h89, ev h92]; rw [s87]) ?_
        exact (KR3.out wz A6 A8 c6 c8 hr6 hr8).mono fun _ _ h => h.grw hB
      · intro az wz hx hB hk H
        refine .inl ⟨wanted_none rfl, ?_⟩
        exact gives_field rfl (by rw [(ev (show az.tmps[12]? = some (.pointer (some ⟨g12, 0, none⟩)) from hk 12 rfl))]) (run_fd _ _) ⟨Grw.refl _ _, rfl⟩
      · intro az wz hx hB hk H
        obtain ⟨v94, h94, s94⟩ := H 7 rfl _ rfl 94 rfl
        refine .inl ⟨wanted_none rfl, ?_⟩
        exact gives_load_dig g12 o3 rfl (by rw [ev h94]; exact s94) (sec_cells (S7.out.ext hx.below)) HOL3.out ⟨Grw.refl _ _, rfl⟩
      · intro az wz hx hB hk H
        obtain ⟨v93, h93, s93⟩ := H 6 rfl _ rfl 93 rfl
        obtain ⟨v95, h95, s95⟩ := H 8 rfl _ rfl 95 rfl
        refine .inl ⟨wanted_none rfl, ?_⟩
        exact gives_eql_dig o2 o3 rfl HOL2.out HOL3.out (by rw [ev h93]; exact s93) (by rw [ev h95]; exact s95) ⟨Grw.refl _ _, congrArg Value.bool HB.out⟩
      · intro az wz hx hB hk H
        obtain ⟨v96, h96, s96⟩ := H 9 rfl _ rfl 96 rfl
        refine .inl ⟨wanted_none rfl, ?_⟩
        refine gives_assign rfl ?_
        rw [(ev h96)]
        exact ⟨Grw.refl _ _, s96⟩
    · intro az wz hx hd hs hv hsame
      obtain ⟨v87, h87, s87⟩ := hv 0 _ 87 rfl rfl
      obtain rfl : v87 = (.agg (us tb).toArray) := s87
      obtain ⟨v88, h88, s88⟩ := hv 1 _ 88 rfl rfl
      obtain rfl : v88 = (.string p) := s88
      obtain ⟨v89, h89, s89⟩ := hv 2 _ 89 rfl rfl
      obtain ⟨v90, h90, s90⟩ := hv 3 _ 90 rfl rfl
      obtain rfl : v90 = (.pointer (some ⟨g6, 0, none⟩)) := s90
      obtain ⟨v91, h91, s91⟩ := hv 4 _ 91 rfl rfl
      obtain rfl : v91 = (.int .u64 a) := s91
      obtain ⟨v92, h92, s92⟩ := hv 5 _ 92 rfl rfl
      obtain ⟨v93, h93, s93⟩ := hv 6 _ 93 rfl rfl
      obtain rfl : v93 = (.agg (bs o2).toArray) := s93
      obtain ⟨v94, h94, s94⟩ := hv 7 _ 94 rfl rfl
      obtain rfl : v94 = (.pointer (some ⟨g12, 2, none⟩)) := s94
      obtain ⟨v95, h95, s95⟩ := hv 8 _ 95 rfl rfl
      obtain rfl : v95 = (.agg (bs o3).toArray) := s95
      obtain ⟨v96, h96, s96⟩ := hv 9 _ 96 rfl rfl
      obtain rfl : v96 = (.bool b) := s96
      obtain ⟨v16, h16, s16⟩ := hv 10 _ 16 rfl rfl
      obtain rfl : v16 = (.bool b) := s16
      have hfr := frame_last (k := 11) [(87, (.agg (us tb).toArray)), (88, (.string p)), (89, v89), (90, (.pointer (some ⟨g6, 0, none⟩))), (91, (.int .u64 a)), (92, v92), (93, (.agg (bs o2).toArray)), (94, (.pointer (some ⟨g12, 2, none⟩))), (95, (.agg (bs o3).toArray)), (96, (.bool b)), (16, (.bool b))] hs (by kernel_rfl) (by simp only [List.forall_mem_cons, List.not_mem_nil, false_implies, implies_true, and_true]; exact ⟨h87, h88, h89, h90, h91, h92, h93, h94, h95, h96, h16⟩) (fun t' h => hsame t' fun i o ho => h i o (by intro e; subst e; cases ho) ho)
      simp only [List.foldl_cons, List.foldl_nil, List.setIfInBounds_toArray, List.set_cons_succ, List.set_cons_zero] at hfr
      obtain ⟨tm, df⟩ := az
      simp only [] at hfr hd
      subst hfr hd
      clear hv hsame hs h87 h88 h89 h90 h91 h92 h93 h94 h95 h96 h16
      have X9 := hide (X7.out.trans hx.below)
      have S9 := hide (S7.out.ext hx.below)
      refine hK2 _ _ ?_
      clear hK2
      go_wp2_with (first
        | (refine wpList_load_sec rfl (.tmp 12) rfl _ rfl a 3 o3 S9.out HOL3.out ?_)
        | (go_at_call 13; (with_reducible refine (KC3.out _ X9.out).mono ?_); rintro e w10 ⟨v10, rfl, hx10, rfl⟩; have X10 := hide (X9.out.trans hx10); clear hx10))
      go_ret
      exact Ret.mk X10.out rfl
theorem passChecks_walk (p q : ByteArray) (a r : Int) (d : List UInt8) (n : Int) (w : World) (hp : p.size ≤ 140737488351232) (hq : q.size ≤ 140737488351232) (ha : 0 ≤ a ∧ a < 18446744073709551616) (hd : d.length = 32) (ht : Tab w) :
    Calls Tryd.prog 4 #[.string p, .string q, .agg (sec a r d).toArray, .int .i64 n] w (Ret w (Is (.bool true))) := by
  by_cases hbig : 1000 < p.size + q.size
  · exact checks_big p q a r d n w hbig hp hq ht
  · by_cases h1 : r < 1
    · exact checks_low p q a r d n w (by omega) ha hd h1 ht
    · by_cases h2 : 64 < r
      · exact checks_high p q a r d n w (by omega) ha hd h1 h2 ht
      · cases hb : strU p.data.toList (be64 a) r == d with
        | true => exact checks_right p q a r d n w (by omega) ha hd h1 h2 (decide_eq_true (by omega)) hb ht
        | false => exact checks_wrong p q a r d n w (by omega) ha hd h1 h2 (decide_eq_true (by omega)) hb ht
end Go.Proofs.YtdllppaichlnaaaDoor
