/-
  The walk of PageSwaps.
-/
import Derived.Test.YtmamhinpkioogaaPgP
import Derived.Test.YtmamhinpkioogaaLdA
import Derived.Test.YtmamhinpkioogaaGrowL
namespace Go.Proofs.Ytmamhinpkioogaa
open Go.RowKit

theorem ret_cells {w : World} {B : Nat} {L : List Cl} {e : Ending} {w' : World} (h : Ret w (CellsO B L) e w') : Ret w (Cells L) e w' := by
  obtain ⟨v, he, hx, ho⟩ := h
  exact ⟨v, he, hx, ho.cells⟩
theorem rrises_yes {A : Option Addr} {L : List Cl} (n c : Nat) (w : World) (hr : RdC w A L) (hn : L.length = n) (hnm : n ≤ 4398046511104) (h : Rises L) :
    Calls Try.prog 21 #[.slice A n c] w (fun e w' => e = .returned (.bool true) ∧ ∃ q, w' = w.drewN q) :=
  (rrises_any n c w hr hn hnm).mono fun e w' ⟨b, he, hb, hq⟩ => by rw [hb.2 h] at he; exact ⟨he, hq⟩
theorem rrises_no {A : Option Addr} {L : List Cl} (n c : Nat) (w : World) (hr : RdC w A L) (hn : L.length = n) (hnm : n ≤ 4398046511104) (h : ¬ Rises L) :
    Calls Try.prog 21 #[.slice A n c] w (fun e w' => e = .returned (.bool false) ∧ ∃ q, w' = w.drewN q) :=
  (rrises_any n c w hr hn hnm).mono fun e w' ⟨b, he, hb, hq⟩ => by
    cases b
    · exact ⟨he, hq⟩
    · exact absurd (hb.1 rfl) h
theorem rsame_yes {A B : Option Addr} {L M : List Cl} (n m c d : Nat) (w : World) (hr : RdC w A L) (hs : RdC w B M) (hn : L.length = n) (hm : M.length = m) (hnm : n ≤ 4398046511104) (h : L = M) :
    Calls Try.prog 19 #[.slice A n c, .slice B m d] w (fun e w' => e = .returned (.bool true) ∧ ∃ q, w' = w.drewN q) :=
  (rsame_any n m c d w hr hs hn hm hnm).mono fun e w' ⟨b, he, hb, hq⟩ => by rw [hb.2 h] at he; exact ⟨he, hq⟩
set_option maxRecDepth 20000 in
set_option maxHeartbeats 1600000 in
theorem pageSwaps_no (A A1 A2 : Option Addr) (n c n1 n2 c1 c2 : Nat) (L : List Cl) (w : World) (hr : RdC w A L) (hn : L.length = n) (hnm : n ≤ 4398046511104) (h : ¬ Rises L) :
    Calls Try.prog 10 #[.slice A n c, .agg #[.slice A1 n1 c1, .slice A2 n2 c2]] w (Ret w (Is (.bool true))) := by
  have KA := hide awake_any
  have KR := hide (fun (W : World) (hW : Ext w W) => rrises_no n c W (hr.ext hW) hn hnm h)
  clear hr hn hnm h
  go_enter Try.func10, Try.ntmps10
  go_upto_region 2 with (first
    | (go_at_call 11; (with_reducible refine (KA.out _).mono ?_); rintro e w1 ⟨rfl, hx⟩; have X1 := hide ((Ext.alloc _ _).trans hx); clear hx)
    | (go_at_call 21; (with_reducible refine (KR.out _ X1.out).mono ?_); rintro e w2 ⟨rfl, q, rfl⟩; have X2 := hide (X1.out.trans ((Ext.refl _).drewN q))))
  go_wp2_with (go_at_call 11; (with_reducible refine (KA.out _).mono ?_); rintro e w3 ⟨rfl, hx⟩; have X3 := hide (X2.out.trans hx); clear hx)
  go_ret
  exact Ret.mk X3.out rfl
set_option maxRecDepth 20000 in
set_option maxHeartbeats 1600000 in
theorem pageSwaps_long (A A1 A2 : Option Addr) (n c n1 n2 c1 c2 : Nat) (L : List Cl) (w : World) (hr : RdC w A L) (hn : L.length = n) (hnm : n ≤ 4398046511104) (h : Rises L) (hlong : 200 < n) :
    Calls Try.prog 10 #[.slice A n c, .agg #[.slice A1 n1 c1, .slice A2 n2 c2]] w (Ret w (Is (.bool true))) := by
  have KA := hide awake_any
  have KR := hide (fun (W : World) (hW : Ext w W) => rrises_yes n c W (hr.ext hW) hn hnm h)
  have hli : (200 : Int) < (n : Int) := by omega
  clear hlong
  clear hr hn hnm h
  go_enter Try.func10, Try.ntmps10
  go_upto_region 2 with (first
    | (go_at_call 11; (with_reducible refine (KA.out _).mono ?_); rintro e w1 ⟨rfl, hx⟩; have X1 := hide ((Ext.alloc _ _).trans hx); clear hx)
    | (go_at_call 21; (with_reducible refine (KR.out _ X1.out).mono ?_); rintro e w2 ⟨rfl, q, rfl⟩; have X2 := hide (X1.out.trans ((Ext.refl _).drewN q))))
  go_wp2_with (go_at_call 11; (with_reducible refine (KA.out _).mono ?_); rintro e w3 ⟨rfl, hx⟩; have X3 := hide (X2.out.trans hx); clear hx)
  go_ret
  exact Ret.mk X3.out rfl
theorem ext_of_grw {w0 w w' : World} (h : Grw w0.heap.size w w') (hx : Ext w0 w) : Ext w0 w' := hx.grw h
set_option maxRecDepth 20000 in
set_option maxHeartbeats 3200000 in
theorem pageSwaps_main (A A1 A2 : Option Addr) (n c n1 n2 c1 c2 : Nat) (L : List Cl) (x : Cl) (w : World) (hr : RdC w A L) (h1 : Rd w A1 x.1) (h2 : Rd w A2 x.2) (e1 : x.1.length = n1) (e2 : x.2.length = n2) (hc1 : n1 ≤ c1) (hc2 : n2 ≤ c2) (hn : L.length = n) (hnc : n ≤ c) (h : Rises L) (hs : n ≤ 200) (hS : Small L) (hSx : Small [x]) :
    Calls Try.prog 10 #[.slice A n c, .agg #[.slice A1 n1 c1, .slice A2 n2 c2]] w (Ret w (Is (.bool true))) := by
  have KA := hide awake_any
  have KR := hide (fun (W : World) (hW : Ext w W) => rrises_yes n c W (hr.ext hW) hn (by omega) h)
  obtain ⟨RP, HRP⟩ : ∃ RP, Hid (repl L x.1 [x] = RP) := ⟨_, hide rfl⟩
  obtain ⟨RD, HRD⟩ : ∃ RD, Hid (repl L x.1 [] = RD) := ⟨_, hide rfl⟩
  have KP0 := hide (fun (W : World) (hW : Keeps w W) => (show Calls Try.prog 23 #[.slice A n c, .agg #[.slice A1 n1 c1, .slice A2 n2 c2]] W (Ret W (Cells RP)) from by
    have hp := put_any n n1 n2 c c1 c2 W (hr.keep hW) (h1.keep hW) (h2.keep hW) hn e1 e2 hc1 hc2 (by omega) hnc h hS hSx
    rw [HRP.out] at hp
    exact hp.mono fun _ _ hh => ret_cells hh))
  have LP : Hid (RP.length ≤ 201) := hide (by rw [← HRP.out]; have := repl_le L x.1 [x]; simp at this; omega)
  have KD0 := hide (fun (W : World) (hW : Keeps w W) (Az : Option Addr) (cz : Nat) (hcz : RP.length ≤ cz) (hz : RdC W Az RP) => (show Calls Try.prog 25 #[.slice Az RP.length cz, .slice A1 n1 c1] W (Ret W (Cells RD)) from by
    have hp := drop_any (key := x.1) RP.length n1 cz c1 W hz (h1.keep hW) rfl e1 (by have := LP.out; omega) hcz (by rw [← HRP.out]; exact repl_rises1 h rfl) (by rw [← HRP.out]; exact repl_small hS hSx)
    rw [← HRP.out, repl_twice h rfl, HRD.out, HRP.out] at hp
    exact hp.mono fun _ _ hh => ret_cells hh))
  have hli : ¬ (200 : Int) < (n : Int) := by omega
  have HN2 : Hid (n ≤ 200) := hide hs
  clear hs
  go_enter Try.func10, Try.ntmps10
  go_upto_region 1 with fail
  obtain ⟨W1, hX1, hR1, hg⟩ : ∃ W1, Ext w W1 ∧ Rw W1 w.heap.size 40 [.slice A1 n1 c1, .slice A2 n2 c2] ∧ w.alloc (.cells #[.slice A1 n1 c1, .slice A2 n2 c2] 40) = W1 := ⟨_, Ext.alloc _ _, Rw.new _ _ _, rfl⟩
  rw [hg]
  obtain ⟨hb, HHB⟩ : ∃ hb, Hid (w.heap.size = hb) := ⟨_, hide rfl⟩
  rw [HHB.out] at hR1 ⊢
  have X0 := hide hX1
  have R0 := hide hR1
  clear hg hX1 hR1
  go_upto_region 3 with (first
    | (go_at_call 11; (with_reducible refine (KA.out _).mono ?_); rintro e w1 ⟨rfl, hx1⟩; have X1 := hide (X0.out.trans hx1); have R1 := hide (R0.out.ext hx1); clear hx1)
    | (go_at_call 21; (with_reducible refine (KR.out _ X1.out).mono ?_); rintro e w2 ⟨rfl, q, rfl⟩))
  obtain ⟨w2, hw2⟩ : ∃ w2, w1.drewN q = w2 := ⟨_, rfl⟩
  have X2 : Hid (Ext w w2) := hide (by rw [← hw2]; exact X1.out.trans ((Ext.refl _).drewN q))
  have RB : Hid (Rw w2 hb 40 [.slice A1 n1 c1, .slice A2 n2 c2]) := hide (by rw [← hw2]; exact R1.out.ext ((Ext.refl _).drewN q))
  rw [hw2]
  clear hw2 X1 R1 X0 R0 KA KR hli
  rename_i hK
  have KP := hide (fun (W : World) (hW : Keeps w2 W) => KP0.out W (X2.out.keeps.trans hW))
  have KD := hide (fun (W : World) (hW : Keeps w2 W) => KD0.out W (X2.out.keeps.trans hW))
  refine wp_region_sp X2.out.size [
      Sp.is (.slice A n c),
      Sp.is (.agg #[.slice A1 n1 c1, .slice A2 n2 c2]),
      Sp.cells RP,
      Sp.is (.pointer (some ⟨hb, 0, none⟩)),
      Sp.is (.slice A1 n1 c1),
      Sp.cells RD,
      Sp.cells RD] (by kernel_rfl) (by kernel_rfl) ?_ ?_
  · refine ⟨?_, ?_, ?_, ?_, ?_, ?_, ?_, trivial⟩
    · intro az wz hx hB hk H
      refine .inl ⟨wanted_none rfl, ?_⟩
      refine gives_move rfl ?_
      rw [(ev (show az.tmps[0]? = some (.slice A n c) from hk 0 rfl))]
      exact ⟨Grw.refl _ _, rfl⟩
    · intro az wz hx hB hk H
      refine .inl ⟨wanted_none rfl, ?_⟩
      refine gives_load_at 40 (.tmp 3) rfl hb 0 (by rw [ev (show az.tmps[3]? = some (.pointer (some ⟨hb, 0, none⟩)) from hk 3 rfl)]) [.slice A1 n1 c1, .slice A2 n2 c2] 2 (agg_struct Try.underlying40 _) sizeCell rfl (fun j v hj => by rw [Nat.zero_add]; exact hx.keeps.cell (RB.out.cell hj)) ?_
      exact ⟨Grw.refl _ _, rfl⟩
    · intro az wz hx hB hk H
      obtain ⟨v21, h21, s21⟩ := H 0 rfl _ rfl 21 rfl
      obtain ⟨v22, h22, s22⟩ := H 1 rfl _ rfl 22 rfl
      refine .inl ⟨wanted_none rfl, ?_⟩
      refine gives_call rfl Try.call23 (by simp only [List.map_toArray, List.map_cons, List.map_nil, ev h21, ev h22]; rw [s21, s22]) ?_
      exact (KP.out wz hx.keeps).mono fun _ _ h => h.grw hB
    · intro az wz hx hB hk H
      refine .inl ⟨wanted_none rfl, ?_⟩
      refine gives_fieldP rfl (by rw [ev (show az.tmps[3]? = some (.pointer (some ⟨hb, 0, none⟩)) from hk 3 rfl)]) (run_fieldC hb 0 (.inl rfl) _) ?_
      exact ⟨Grw.refl _ _, rfl⟩
    · intro az wz hx hB hk H
      obtain ⟨v24, h24, s24⟩ := H 3 rfl _ rfl 24 rfl
      refine .inl ⟨wanted_none rfl, ?_⟩
      refine gives_load_one rfl (by rw [ev h24, s24]) Try.underlying28 (hx.keeps.cell (RB.out.cell (i := 0) rfl)) ?_
      exact ⟨Grw.refl _ _, rfl⟩
    · intro az wz hx hB hk H
      obtain ⟨v23, h23, s23⟩ := H 2 rfl _ rfl 23 rfl
      obtain ⟨v25, h25, s25⟩ := H 4 rfl _ rfl 25 rfl
      refine .inl ⟨wanted_none rfl, ?_⟩
      obtain ⟨Az, cz, hvz, hcz, hrz⟩ := s23
      refine gives_call rfl Try.call25 (by simp only [List.map_toArray, List.map_cons, List.map_nil, ev h23, ev h25]; rw [hvz, s25]) ?_
      exact (KD.out wz hx.keeps Az cz hcz hrz).mono fun _ _ h => h.grw hB
    · intro az wz hx hB hk H
      obtain ⟨v26, h26, s26⟩ := H 5 rfl _ rfl 26 rfl
      refine .inl ⟨wanted_none rfl, ?_⟩
      refine gives_assign rfl ?_
      rw [(ev h26)]
      exact ⟨Grw.refl _ _, s26⟩
  · intro az wz hx hd hs hv hsame
    obtain ⟨v21, h21, s21⟩ := hv 0 _ 21 rfl rfl
    obtain rfl : v21 = .slice A n c := s21
    obtain ⟨v22, h22, s22⟩ := hv 1 _ 22 rfl rfl
    obtain rfl : v22 = .agg #[.slice A1 n1 c1, .slice A2 n2 c2] := s22
    obtain ⟨v23, h23, s23⟩ := hv 2 _ 23 rfl rfl
    obtain ⟨Ap, cp, rfl, -, -⟩ := s23
    obtain ⟨v24, h24, s24⟩ := hv 3 _ 24 rfl rfl
    obtain rfl : v24 = .pointer (some ⟨hb, 0, none⟩) := s24
    obtain ⟨v25, h25, s25⟩ := hv 4 _ 25 rfl rfl
    obtain rfl : v25 = .slice A1 n1 c1 := s25
    obtain ⟨v26, h26, s26⟩ := hv 5 _ 26 rfl rfl
    obtain ⟨Ad, cd, rfl, -, -⟩ := s26
    obtain ⟨v5, h5, s5⟩ := hv 6 _ 5 rfl rfl
    obtain ⟨Ae, ce, rfl, hce, hre⟩ := s5
    have hfr := frame_last (k := 7) [(21, .slice A n c), (22, .agg #[.slice A1 n1 c1, .slice A2 n2 c2]), (23, .slice Ap RP.length cp), (24, .pointer (some ⟨hb, 0, none⟩)), (25, .slice A1 n1 c1), (26, .slice Ad RD.length cd), (5, .slice Ae RD.length ce)] hs (by kernel_rfl) (by simp only [List.forall_mem_cons, List.not_mem_nil, false_implies, implies_true, and_true]; exact ⟨h21, h22, h23, h24, h25, h26, h5⟩) (fun t' h => hsame t' fun i o ho => h i o (by intro e; subst e; cases ho) ho)
    simp only [List.foldl_cons, List.foldl_nil, List.setIfInBounds_toArray, List.set_cons_succ, List.set_cons_zero] at hfr
    obtain ⟨tm, df⟩ := az
    simp only [] at hfr hd
    subst hfr hd
    clear hv hsame hs h21 h22 h23 h24 h25 h26 h5
    have X5 : Hid (Ext w wz) := hide (X2.out.grw hx)
    have k0 := hx.keeps.cell (RB.out.cell (i := 0) rfl)
    have k1 := hx.keeps.cell (RB.out.cell (i := 1) rfl)
    have HRE := hide hre
    have HCE := hide hce
    clear hx hre hce KP KD RB
    refine hK _ _ ?_
    have LD : Hid (RD.length ≤ 201 ∧ RP.length = RD.length + 1) := hide (by have h1 := repl_len L x.1 x; rw [HRP.out, HRD.out] at h1; have := LP.out; omega)
    have hl1 : (RD.length : Int) ≤ 201 := by have := LD.out; omega
    have hl2 : ((RP.length : Int) == (RD.length : Int) + 1) = true := by rw [beq_iff_eq]; have := LD.out; omega
    have hl3 : (RP.length : Int) = (RD.length : Int) + 1 := by have := LD.out; omega
    have KF := hide (fun (W : World) (hW : Ext wz W) => (show Calls Try.prog 22 #[.slice Ae RD.length ce, .slice A1 n1 c1] W (Ret W (Is (.tuple #[.int .i64 (ix RD x.1 : Int), .bool false]))) from by
      have hf := find_any (key := x.1) RD.length n1 ce c1 W (HRE.out.ext hW) (h1.ext (X5.out.trans hW)) rfl e1 (by have := LD.out; omega) (by rw [← HRD.out]; exact repl_rises0 h)
      rw [← HRD.out, repl_hs0 h] at hf
      rw [← HRD.out]
      exact hf))
    have KD2 := hide (fun (W : World) (hW : Ext w W) => (show Calls Try.prog 25 #[.slice A n c, .slice A1 n1 c1] W (Ret W (Cells RD)) from by
      have hp := drop_any (key := x.1) n n1 c c1 W (hr.ext hW) (h1.ext hW) hn e1 (by have := HN2.out; omega) hnc h hS
      rw [HRD.out] at hp
      exact hp.mono fun _ _ hh => ret_cells hh))
    have KP2 := hide (fun (W : World) (hW : Ext w W) => KP0.out W hW.keeps)
    go_upto_region 5 with (go_at_call 22; (with_reducible refine (KF.out _ (Ext.refl _)).mono ?_); rintro e w4 ⟨v4, rfl, hx4, rfl⟩; have m0 := hx4.keeps.cell k0; have m1 := hx4.keeps.cell k1; have X6 := hide hx4; clear hx4)
    clear k0 k1
    go_wp2_with (first
      | (go_at_call 25; (with_reducible refine (KD2.out _ (X5.out.trans X6.out)).mono ?_); rintro e w5 ⟨v5, rfl, hx5, Af, cf, rfl, hcf, hrf⟩; have HRF := hide hrf; have p0 := hx5.keeps.cell m0; have p1 := hx5.keeps.cell m1; have X7 := hide (X6.out.trans hx5); clear hx5 hcf hrf)
      | (go_at_call 19; (with_reducible refine (rsame_yes RD.length RD.length ce cf _ (HRE.out.ext X7.out) HRF.out rfl rfl (by have := LD.out; omega) rfl).mono ?_); rintro e w6 ⟨rfl, q6, rfl⟩; have X8 := hide (X7.out.trans ((Ext.refl _).drewN q6)))
      | (go_at_call 23; (with_reducible refine (KP2.out _ (X5.out.trans X8.out)).mono ?_); rintro e w7 ⟨v7, rfl, hx7, Ag, cg, rfl, hcg, hrg⟩; have X9 := hide (X8.out.trans hx7); clear hx7 hcg hrg))
    go_ret
    exact Ret.mk (X5.out.trans X9.out) rfl
theorem small_one {x : Cl} (h : x.1.length ≤ 140737488351232 ∧ x.2.length ≤ 140737488351232) : Small [x] := fun y hy => by rw [List.mem_singleton.1 hy]; exact h
theorem pageSwaps_walk (A A1 A2 : Option Addr) (c c1 c2 : Nat) (L : List Cl) (x : Cl) (w : World) (hr : RdC w A L) (h1 : Rd w A1 x.1) (h2 : Rd w A2 x.2) (hc1 : x.1.length ≤ c1) (hc2 : x.2.length ≤ c2) (hnc : L.length ≤ c) (hm : L.length ≤ 4398046511104) (hS : Small L) (hSx : x.1.length ≤ 140737488351232 ∧ x.2.length ≤ 140737488351232) :
    Calls Try.prog 10 #[.slice A L.length c, .agg #[.slice A1 x.1.length c1, .slice A2 x.2.length c2]] w (Ret w (Is (.bool true))) := by
  by_cases hR : Rises L
  · by_cases hl : 200 < L.length
    · exact pageSwaps_long A A1 A2 _ c _ _ c1 c2 L w hr rfl hm hR hl
    · exact pageSwaps_main A A1 A2 _ c _ _ c1 c2 L x w hr h1 h2 rfl rfl hc1 hc2 rfl hnc hR (by omega) hS (small_one hSx)
  · exact pageSwaps_no A A1 A2 _ c _ _ c1 c2 L w hr rfl hm hR
end Go.Proofs.Ytmamhinpkioogaa
