/-
  The walk of PageEncodes.
-/
import Derived.Test.YtmamhinpkioogaaPgEo
import Derived.Test.YtmamhinpkioogaaPgFi
namespace Go.Proofs.Ytmamhinpkioogaa
open Go.RowKit

theorem three_cells {w : World} {g : Nat} {a b c : Value} (h0 : w.cell? ⟨g, 0, none⟩ = some a) (h1 : w.cell? ⟨g, 1, none⟩ = some b) (h2 : w.cell? ⟨g, 2, none⟩ = some c) : ∀ (i : Nat) (v : Value), [a, b, c][i]? = some v → w.cell? ⟨g, i, none⟩ = some v
  | 0, _, h => by injection h with h; subst h; exact h0
  | 1, _, h => by injection h with h; subst h; exact h1
  | 2, _, h => by injection h with h; subst h; exact h2
set_option maxRecDepth 20000 in
set_option maxHeartbeats 6400000 in
theorem pageEncodes_long (A : Option Addr) (kind next : Int) (n c : Nat) (L : List Cl) (w : World) (hr : RdC w A L) (hn : L.length = n) (hS : Small L) (hl : 600 < n) :
    Calls Try.prog 3 #[.agg #[.int .u8 kind, .int .i64 next, .slice A n c]] w (Ret w (Is (.bool true))) := by
  have KA := hide awake_any
  have hli : (600 : Int) < (n : Int) := by omega
  clear hr hn hS hl
  go_enter Try.func3, Try.ntmps3
  go_upto_region 1 with fail
  obtain ⟨W1, hX1, hR1, hg⟩ : ∃ W1, Ext w W1 ∧ Rw W1 w.heap.size 24 [.int .u8 kind, .int .i64 next, .slice A n c] ∧ w.alloc (.cells #[.int .u8 kind, .int .i64 next, .slice A n c] 24) = W1 := ⟨_, Ext.alloc _ _, Rw.new _ _ _, rfl⟩
  rw [hg]
  obtain ⟨hp, HHP⟩ : ∃ hp, Hid (w.heap.size = hp) := ⟨_, hide rfl⟩
  rw [HHP.out] at hR1 ⊢
  have X1 := hide hX1
  have R1 := hide hR1
  clear hg hX1 hR1
  go_upto_region 2 with (go_at_call 11; (with_reducible refine (KA.out _).mono ?_); rintro e w2 ⟨rfl, hx2⟩; have X2 := hide (X1.out.trans hx2); have R2 := hide (R1.out.ext hx2); have z2 := R2.out.cell (i := 2) rfl; clear hx2)
  go_wp2_with (go_at_call 11; (with_reducible refine (KA.out _).mono ?_); rintro e w3 ⟨rfl, hx3⟩; have X3 := hide (X2.out.trans hx3); clear hx3)
  go_ret
  exact Ret.mk X3.out rfl
set_option maxRecDepth 20000 in
set_option maxHeartbeats 6400000 in
theorem pageEncodes_no (A : Option Addr) (kind next : Int) (n c : Nat) (L : List Cl) (w : World) (hr : RdC w A L) (hn : L.length = n) (hS : Small L) (hl : n ≤ 600) (hf : formB kind next L = false) :
    Calls Try.prog 3 #[.agg #[.int .u8 kind, .int .i64 next, .slice A n c]] w (Ret w (Is (.bool true))) := by
  have KA := hide awake_any
  obtain ⟨s, HSS⟩ : ∃ s, Hid (szs L = s) := ⟨_, hide rfl⟩
  obtain ⟨fb, HFB⟩ : ∃ fb, Hid (formB kind next L = fb) := ⟨_, hide rfl⟩
  have KF := hide (fun (W : World) (hW : Keeps w W) => (show Calls Try.prog 12 #[.agg #[.int .u8 kind, .int .i64 next, .slice A n c]] W (Ret W (Is (.bool fb))) from by have h := form_any kind next n c W (hr.keep hW) hn (by omega) hS; rw [HFB.out] at h; exact h))
  have KG := hide (fun (W : World) (hW : Keeps w W) => (show Calls Try.prog 13 #[.agg #[.int .u8 kind, .int .i64 next, .slice A n c]] W (Ret W (Is (.bool fb))) from by have h := rform_any kind next n c W (hr.keep hW) hn (by omega) hS; rw [HFB.out] at h; exact h))
  have KS := hide (fun (W : World) (hW : Keeps w W) => (show Calls Try.prog 14 #[.slice A n c] W (Ret W (Is (.int .i64 (s : Int)))) from by have h := size_any A c L W (hr.keep hW) hS (by omega); rw [hn, HSS.out] at h; exact h))
  have KT := hide (fun (W : World) (hW : Keeps w W) => (show Calls Try.prog 15 #[.slice A n c] W (fun e w' => e = .returned (.int .i64 (s : Int)) ∧ ∃ q, w' = W.drewN q) from by have h := rsize_any n c W (hr.keep hW) hn (by omega) hS; rw [HSS.out] at h; exact h))
  have hli : (n : Int) ≤ 600 := by omega
  have hlj : ¬ (600 : Int) < (n : Int) := by omega
  have KE := hide (fun (W : World) (hW : Ext w W) => encode_no kind next n c W (hr.ext hW) hn (by omega) hS hf)
  have HFF : fb = false := by rw [← HFB.out]; exact hf
  subst HFF
  clear hr hn hS hl hf HFB HSS
  go_enter Try.func3, Try.ntmps3
  go_upto_region 1 with fail
  obtain ⟨W1, hX1, hR1, hg⟩ : ∃ W1, Ext w W1 ∧ Rw W1 w.heap.size 24 [.int .u8 kind, .int .i64 next, .slice A n c] ∧ w.alloc (.cells #[.int .u8 kind, .int .i64 next, .slice A n c] 24) = W1 := ⟨_, Ext.alloc _ _, Rw.new _ _ _, rfl⟩
  rw [hg]
  obtain ⟨hp, HHP⟩ : ∃ hp, Hid (w.heap.size = hp) := ⟨_, hide rfl⟩
  rw [HHP.out] at hR1 ⊢
  have X1 := hide hX1
  have R1 := hide hR1
  clear hg hX1 hR1
  go_upto_region 3 with (go_at_call 11; (with_reducible refine (KA.out _).mono ?_); rintro e w2 ⟨rfl, hx2⟩; have X2 := hide (X1.out.trans hx2); have R2 := hide (R1.out.ext hx2); have z2 := R2.out.cell (i := 2) rfl; clear hx2)
  rename_i hK
  refine wp_region_sp X2.out.size [
      Sp.is (.agg #[.int .u8 kind, .int .i64 next, .slice A n c]),
      Sp.is (.bool false),
      Sp.is (.agg #[.int .u8 kind, .int .i64 next, .slice A n c]),
      Sp.is (.bool false),
      Sp.is (.bool false),
      Sp.is (.bool false),
      Sp.is (.pointer (some ⟨hp, 2, none⟩)),
      Sp.is (.slice A n c),
      Sp.is (.int .i64 (s : Int)),
      Sp.is (.pointer (some ⟨hp, 2, none⟩)),
      Sp.is (.slice A n c),
      Sp.is (.int .i64 (s : Int)),
      Sp.is (.bool false),
      Sp.is (.bool false)] (by kernel_rfl) (by kernel_rfl) ?_ ?_
  · refine ⟨?_, ?_, ?_, ?_, ?_, ?_, ?_, ?_, ?_, ?_, ?_, ?_, ?_, ?_, trivial⟩
    · intro az wz hx hB hk H
      refine .inl ⟨wanted_none rfl, ?_⟩
      refine gives_load_at 24 (.tmp 1) rfl hp 0 (by rw [(ev (show az.tmps[1]? = some (.pointer (some ⟨hp, 0, none⟩)) from hk 1 rfl))]) [.int .u8 kind, .int .i64 next, .slice A n c] 3 (agg_struct Try.underlying24 _) sizePage rfl (fun j v hj => by rw [Nat.zero_add]; exact hx.keeps.cell (R2.out.cell hj)) ?_
      exact ⟨Grw.refl _ _, rfl⟩
    · intro az wz hx hB hk H
      obtain ⟨v26, h26, s26⟩ := H 0 rfl _ rfl 26 rfl
      refine .inl ⟨wanted_none rfl, ?_⟩
      refine gives_call rfl Try.call12 (by simp only [List.map_toArray, List.map_cons, List.map_nil, ev h26]; rw [s26]) ?_
      exact (KF.out wz (X2.out.keeps.trans hx.keeps)).mono fun _ _ h => h.grw hB
    · intro az wz hx hB hk H
      refine .inl ⟨wanted_none rfl, ?_⟩
      refine gives_load_at 24 (.tmp 1) rfl hp 0 (by rw [(ev (show az.tmps[1]? = some (.pointer (some ⟨hp, 0, none⟩)) from hk 1 rfl))]) [.int .u8 kind, .int .i64 next, .slice A n c] 3 (agg_struct Try.underlying24 _) sizePage rfl (fun j v hj => by rw [Nat.zero_add]; exact hx.keeps.cell (R2.out.cell hj)) ?_
      exact ⟨Grw.refl _ _, rfl⟩
    · intro az wz hx hB hk H
      obtain ⟨v28, h28, s28⟩ := H 2 rfl _ rfl 28 rfl
      refine .inl ⟨wanted_none rfl, ?_⟩
      refine gives_call rfl Try.call13 (by simp only [List.map_toArray, List.map_cons, List.map_nil, ev h28]; rw [s28]) ?_
      exact (KG.out wz (X2.out.keeps.trans hx.keeps)).mono fun _ _ h => h.grw hB
    · intro az wz hx hB hk H
      obtain ⟨v27, h27, s27⟩ := H 1 rfl _ rfl 27 rfl
      obtain ⟨v29, h29, s29⟩ := H 3 rfl _ rfl 29 rfl
      refine .inl ⟨wanted_none rfl, ?_⟩
      refine gives_neq_bool false Try.underlying4 rfl (by rw [ev h27, s27]) (by rw [ev h29, s29]) ⟨Grw.refl _ _, rfl⟩
    · intro az wz hx hB hk H
      obtain ⟨v30, h30, s30⟩ := H 4 rfl _ rfl 30 rfl
      refine .inl ⟨wanted_none rfl, ?_⟩
      refine gives_move rfl ?_
      rw [(ev h30)]
      exact ⟨Grw.refl _ _, s30⟩
    · intro az wz hx hB hk H
      obtain ⟨v31, h31, s31⟩ := H 5 rfl _ rfl 31 rfl
      have g0 : az.tmps[31]? = some (.bool false) := by rw [h31]; exact congrArg some s31
      refine .inl ⟨wanted_yes _ rfl rfl rfl g0, ?_⟩
      refine gives_fieldP rfl (by rw [(ev (show az.tmps[1]? = some (.pointer (some ⟨hp, 0, none⟩)) from hk 1 rfl))]) (run_fieldQ _ 2 (by simp) _) ?_
      exact ⟨Grw.refl _ _, rfl⟩
    · intro az wz hx hB hk H
      obtain ⟨v31, h31, s31⟩ := H 5 rfl _ rfl 31 rfl
      obtain ⟨v32, h32, s32⟩ := H 6 rfl _ rfl 32 rfl
      have g0 : az.tmps[31]? = some (.bool false) := by rw [h31]; exact congrArg some s31
      refine .inl ⟨wanted_yes _ rfl rfl rfl g0, ?_⟩
      refine gives_load_one rfl (by rw [ev h32, s32]) Try.underlying22 (hx.keeps.cell (R2.out.cell (i := 2) rfl)) ?_
      exact ⟨Grw.refl _ _, rfl⟩
    · intro az wz hx hB hk H
      obtain ⟨v31, h31, s31⟩ := H 5 rfl _ rfl 31 rfl
      obtain ⟨v33, h33, s33⟩ := H 7 rfl _ rfl 33 rfl
      have g0 : az.tmps[31]? = some (.bool false) := by rw [h31]; exact congrArg some s31
      refine .inl ⟨wanted_yes _ rfl rfl rfl g0, ?_⟩
      refine gives_call rfl Try.call14 (by simp only [List.map_toArray, List.map_cons, List.map_nil, ev h33]; rw [s33]) ?_
      exact (KS.out wz (X2.out.keeps.trans hx.keeps)).mono fun _ _ h => h.grw hB
    · intro az wz hx hB hk H
      obtain ⟨v31, h31, s31⟩ := H 5 rfl _ rfl 31 rfl
      have g0 : az.tmps[31]? = some (.bool false) := by rw [h31]; exact congrArg some s31
      refine .inl ⟨wanted_yes _ rfl rfl rfl g0, ?_⟩
      refine gives_fieldP rfl (by rw [(ev (show az.tmps[1]? = some (.pointer (some ⟨hp, 0, none⟩)) from hk 1 rfl))]) (run_fieldQ _ 2 (by simp) _) ?_
      exact ⟨Grw.refl _ _, rfl⟩
    · intro az wz hx hB hk H
      obtain ⟨v31, h31, s31⟩ := H 5 rfl _ rfl 31 rfl
      obtain ⟨v35, h35, s35⟩ := H 9 rfl _ rfl 35 rfl
      have g0 : az.tmps[31]? = some (.bool false) := by rw [h31]; exact congrArg some s31
      refine .inl ⟨wanted_yes _ rfl rfl rfl g0, ?_⟩
      refine gives_load_one rfl (by rw [ev h35, s35]) Try.underlying22 (hx.keeps.cell (R2.out.cell (i := 2) rfl)) ?_
      exact ⟨Grw.refl _ _, rfl⟩
    · intro az wz hx hB hk H
      obtain ⟨v31, h31, s31⟩ := H 5 rfl _ rfl 31 rfl
      obtain ⟨v36, h36, s36⟩ := H 10 rfl _ rfl 36 rfl
      have g0 : az.tmps[31]? = some (.bool false) := by rw [h31]; exact congrArg some s31
      refine .inl ⟨wanted_yes _ rfl rfl rfl g0, ?_⟩
      refine gives_call rfl Try.call15 (by simp only [List.map_toArray, List.map_cons, List.map_nil, ev h36]; rw [s36]) ?_
      exact (KT.out wz (X2.out.keeps.trans hx.keeps)).mono fun _ _ ⟨he, q, hq⟩ => ⟨_, he, by rw [hq]; exact Grw.drewN _ _ _, rfl⟩
    · intro az wz hx hB hk H
      obtain ⟨v31, h31, s31⟩ := H 5 rfl _ rfl 31 rfl
      obtain ⟨v34, h34, s34⟩ := H 8 rfl _ rfl 34 rfl
      obtain ⟨v37, h37, s37⟩ := H 11 rfl _ rfl 37 rfl
      have g0 : az.tmps[31]? = some (.bool false) := by rw [h31]; exact congrArg some s31
      refine .inl ⟨wanted_yes _ rfl rfl rfl g0, ?_⟩
      refine gives_neq_int (k := .i64) (s : Int) rfl (by rw [ev h34, s34]) (by rw [ev h37, s37]) ⟨Grw.refl _ _, rfl⟩
    · intro az wz hx hB hk H
      obtain ⟨v31, h31, s31⟩ := H 5 rfl _ rfl 31 rfl
      obtain ⟨v38, h38, s38⟩ := H 12 rfl _ rfl 38 rfl
      refine .inl ⟨wanted_none rfl, ?_⟩
      refine gives_pick false rfl ?_ ?_
      · rw [(ev h31)]
        exact s31
      · show Grw _ _ _ ∧ _
        rw [if_neg (by decide), (ev h38)]
        exact ⟨Grw.refl _ _, s38⟩
  · intro az wz hx hd hs hv hsame
    obtain ⟨v26, h26, s26⟩ := hv 0 _ 26 rfl rfl
    obtain rfl : v26 = (.agg #[.int .u8 kind, .int .i64 next, .slice A n c]) := s26
    obtain ⟨v27, h27, s27⟩ := hv 1 _ 27 rfl rfl
    obtain rfl : v27 = (.bool false) := s27
    obtain ⟨v28, h28, s28⟩ := hv 2 _ 28 rfl rfl
    obtain rfl : v28 = (.agg #[.int .u8 kind, .int .i64 next, .slice A n c]) := s28
    obtain ⟨v29, h29, s29⟩ := hv 3 _ 29 rfl rfl
    obtain rfl : v29 = (.bool false) := s29
    obtain ⟨v30, h30, s30⟩ := hv 4 _ 30 rfl rfl
    obtain rfl : v30 = (.bool false) := s30
    obtain ⟨v31, h31, s31⟩ := hv 5 _ 31 rfl rfl
    obtain rfl : v31 = (.bool false) := s31
    obtain ⟨v32, h32, s32⟩ := hv 6 _ 32 rfl rfl
    obtain rfl : v32 = (.pointer (some ⟨hp, 2, none⟩)) := s32
    obtain ⟨v33, h33, s33⟩ := hv 7 _ 33 rfl rfl
    obtain rfl : v33 = (.slice A n c) := s33
    obtain ⟨v34, h34, s34⟩ := hv 8 _ 34 rfl rfl
    obtain rfl : v34 = (.int .i64 (s : Int)) := s34
    obtain ⟨v35, h35, s35⟩ := hv 9 _ 35 rfl rfl
    obtain rfl : v35 = (.pointer (some ⟨hp, 2, none⟩)) := s35
    obtain ⟨v36, h36, s36⟩ := hv 10 _ 36 rfl rfl
    obtain rfl : v36 = (.slice A n c) := s36
    obtain ⟨v37, h37, s37⟩ := hv 11 _ 37 rfl rfl
    obtain rfl : v37 = (.int .i64 (s : Int)) := s37
    obtain ⟨v38, h38, s38⟩ := hv 12 _ 38 rfl rfl
    obtain rfl : v38 = (.bool false) := s38
    obtain ⟨v39, h39, s39⟩ := hv 13 _ 39 rfl rfl
    obtain rfl : v39 = (.bool false) := s39
    have hfr := frame_last (k := 14) [(26, (.agg #[.int .u8 kind, .int .i64 next, .slice A n c])), (27, (.bool false)), (28, (.agg #[.int .u8 kind, .int .i64 next, .slice A n c])), (29, (.bool false)), (30, (.bool false)), (31, (.bool false)), (32, (.pointer (some ⟨hp, 2, none⟩))), (33, (.slice A n c)), (34, (.int .i64 (s : Int))), (35, (.pointer (some ⟨hp, 2, none⟩))), (36, (.slice A n c)), (37, (.int .i64 (s : Int))), (38, (.bool false)), (39, (.bool false))] hs (by kernel_rfl) (by simp only [List.forall_mem_cons, List.not_mem_nil, false_implies, implies_true, and_true]; exact ⟨h26, h27, h28, h29, h30, h31, h32, h33, h34, h35, h36, h37, h38, h39⟩) (fun t' h => hsame t' fun i o ho => h i o (by intro e; subst e; cases ho) ho)
    simp only [List.foldl_cons, List.foldl_nil, List.setIfInBounds_toArray, List.set_cons_succ, List.set_cons_zero] at hfr
    obtain ⟨tm, df⟩ := az
    simp only [] at hfr hd
    subst hfr hd
    clear hv hsame hs h26 h27 h28 h29 h30 h31 h32 h33 h34 h35 h36 h37 h38 h39
    have X3 : Hid (Ext w wz) := hide (X2.out.grw hx)
    have k0 := hx.keeps.cell (R2.out.cell (i := 0) rfl)
    have k1 := hx.keeps.cell (R2.out.cell (i := 1) rfl)
    have k2 := hx.keeps.cell (R2.out.cell (i := 2) rfl)
    clear hx KF KS KT X1 R1 R2 z2 KA hli hlj
    refine hK _ _ ?_
    go_upto_region 6 with (go_at_call 16; (with_reducible refine (KE.out _ X3.out).mono ?_); rintro e w4 ⟨v4, rfl, hx4, rfl⟩; have X4 := hide (X3.out.trans hx4); have m0 := hx4.keeps.cell k0; have m1 := hx4.keeps.cell k1; have m2 := hx4.keeps.cell k2; clear hx4)
    clear k0 k1 k2
    go_upto_region 7 with (go_at_call 13; (with_reducible refine (KG.out _ X4.out.keeps).mono ?_); rintro e w5 ⟨v5, rfl, hx5, rfl⟩; have X5 := hide (X4.out.trans hx5); clear hx5)
    go_wp2
    go_ret
    exact Ret.mk X5.out rfl
set_option maxRecDepth 20000 in
set_option maxHeartbeats 6400000 in
theorem pageEncodes_yes (A : Option Addr) (kind next : Int) (n c : Nat) (L : List Cl) (w : World) (hr : RdC w A L) (hn : L.length = n) (hS : Small L) (hl : n ≤ 600) (hk0 : 0 ≤ kind) (hf : formB kind next L = true) :
    Calls Try.prog 3 #[.agg #[.int .u8 kind, .int .i64 next, .slice A n c]] w (Ret w (Is (.bool true))) := by
  have KA := hide awake_any
  obtain ⟨s, HSS⟩ : ∃ s, Hid (szs L = s) := ⟨_, hide rfl⟩
  obtain ⟨fb, HFB⟩ : ∃ fb, Hid (formB kind next L = fb) := ⟨_, hide rfl⟩
  have KF := hide (fun (W : World) (hW : Keeps w W) => (show Calls Try.prog 12 #[.agg #[.int .u8 kind, .int .i64 next, .slice A n c]] W (Ret W (Is (.bool fb))) from by have h := form_any kind next n c W (hr.keep hW) hn (by omega) hS; rw [HFB.out] at h; exact h))
  have KG := hide (fun (W : World) (hW : Keeps w W) => (show Calls Try.prog 13 #[.agg #[.int .u8 kind, .int .i64 next, .slice A n c]] W (Ret W (Is (.bool fb))) from by have h := rform_any kind next n c W (hr.keep hW) hn (by omega) hS; rw [HFB.out] at h; exact h))
  have KS := hide (fun (W : World) (hW : Keeps w W) => (show Calls Try.prog 14 #[.slice A n c] W (Ret W (Is (.int .i64 (s : Int)))) from by have h := size_any A c L W (hr.keep hW) hS (by omega); rw [hn, HSS.out] at h; exact h))
  have KT := hide (fun (W : World) (hW : Keeps w W) => (show Calls Try.prog 15 #[.slice A n c] W (fun e w' => e = .returned (.int .i64 (s : Int)) ∧ ∃ q, w' = W.drewN q) from by have h := rsize_any n c W (hr.keep hW) hn (by omega) hS; rw [HSS.out] at h; exact h))
  have hli : (n : Int) ≤ 600 := by omega
  have hlj : ¬ (600 : Int) < (n : Int) := by omega
  obtain ⟨LE, HZ⟩ : ∃ l, Hid (encZ kind next L = l) := ⟨_, hide rfl⟩
  have HLE : Hid (LE.length = 504) := hide (by rw [← HZ.out]; exact encZ_length hf)
  have KE := hide (fun (W : World) (hW : Ext w W) => (show Calls Try.prog 16 #[.agg #[.int .u8 kind, .int .i64 next, .slice A n c]] W (Ret W (fun w' v => ∃ B1 d1, v = .tuple #[.slice B1 504 d1, .int .i64 0] ∧ 504 ≤ d1 ∧ Rd w' B1 LE)) from by have h := encode_rd kind next n c W (hr.ext hW) hn (by omega) hS hk0 hf; rw [HZ.out] at h; exact h))
  have KD := hide (fun (B : Option Addr) (d : Nat) (W : World) (hB : Rd W B LE) (hd : 504 ≤ d) => (show Calls Try.prog 17 #[.slice B 504 d] W (Ret W (fun w' v => ∃ A2 c2, v = .tuple #[.agg #[.int .u8 kind, .int .i64 next, .slice A2 n c2], .int .i64 0] ∧ RdC w' A2 L)) from by rw [← HZ.out] at hB; exact decode_enc kind next n d W hB hd hn hk0 hf))
  have KR := hide (fun (W : World) (hW : Keeps w W) => (show Calls Try.prog 18 #[.agg #[.int .u8 kind, .int .i64 next, .slice A n c]] W (Ret W (Bytes LE)) from by have h := rencode_rd kind next n c W (hr.keep hW) hn hk0 hf; rw [HZ.out] at h; exact h))
  have KM0 := hide (fun (W : World) (A2 : Option Addr) (c2 : Nat) (hW : Keeps w W) (h2 : RdC W A2 L) => rsame_yes n n c2 c W h2 (hr.keep hW) hn hn (by omega) rfl)
  have HFF : fb = true := by rw [← HFB.out]; exact hf
  subst HFF
  clear hr hn hS hl hf HFB HSS HZ hk0
  go_enter Try.func3, Try.ntmps3
  go_upto_region 1 with fail
  obtain ⟨W1, hX1, hR1, hg⟩ : ∃ W1, Ext w W1 ∧ Rw W1 w.heap.size 24 [.int .u8 kind, .int .i64 next, .slice A n c] ∧ w.alloc (.cells #[.int .u8 kind, .int .i64 next, .slice A n c] 24) = W1 := ⟨_, Ext.alloc _ _, Rw.new _ _ _, rfl⟩
  rw [hg]
  obtain ⟨hp, HHP⟩ : ∃ hp, Hid (w.heap.size = hp) := ⟨_, hide rfl⟩
  rw [HHP.out] at hR1 ⊢
  have X1 := hide hX1
  have R1 := hide hR1
  clear hg hX1 hR1
  go_upto_region 3 with (go_at_call 11; (with_reducible refine (KA.out _).mono ?_); rintro e w2 ⟨rfl, hx2⟩; have X2 := hide (X1.out.trans hx2); have R2 := hide (R1.out.ext hx2); have z2 := R2.out.cell (i := 2) rfl; clear hx2)
  rename_i hK
  refine wp_region_sp X2.out.size [
      Sp.is (.agg #[.int .u8 kind, .int .i64 next, .slice A n c]),
      Sp.is (.bool true),
      Sp.is (.agg #[.int .u8 kind, .int .i64 next, .slice A n c]),
      Sp.is (.bool true),
      Sp.is (.bool false),
      Sp.is (.bool false),
      Sp.is (.pointer (some ⟨hp, 2, none⟩)),
      Sp.is (.slice A n c),
      Sp.is (.int .i64 (s : Int)),
      Sp.is (.pointer (some ⟨hp, 2, none⟩)),
      Sp.is (.slice A n c),
      Sp.is (.int .i64 (s : Int)),
      Sp.is (.bool false),
      Sp.is (.bool false)] (by kernel_rfl) (by kernel_rfl) ?_ ?_
  · refine ⟨?_, ?_, ?_, ?_, ?_, ?_, ?_, ?_, ?_, ?_, ?_, ?_, ?_, ?_, trivial⟩
    · intro az wz hx hB hk H
      refine .inl ⟨wanted_none rfl, ?_⟩
      refine gives_load_at 24 (.tmp 1) rfl hp 0 (by rw [(ev (show az.tmps[1]? = some (.pointer (some ⟨hp, 0, none⟩)) from hk 1 rfl))]) [.int .u8 kind, .int .i64 next, .slice A n c] 3 (agg_struct Try.underlying24 _) sizePage rfl (fun j v hj => by rw [Nat.zero_add]; exact hx.keeps.cell (R2.out.cell hj)) ?_
      exact ⟨Grw.refl _ _, rfl⟩
    · intro az wz hx hB hk H
      obtain ⟨v26, h26, s26⟩ := H 0 rfl _ rfl 26 rfl
      refine .inl ⟨wanted_none rfl, ?_⟩
      refine gives_call rfl Try.call12 (by simp only [List.map_toArray, List.map_cons, List.map_nil, ev h26]; rw [s26]) ?_
      exact (KF.out wz (X2.out.keeps.trans hx.keeps)).mono fun _ _ h => h.grw hB
    · intro az wz hx hB hk H
      refine .inl ⟨wanted_none rfl, ?_⟩
      refine gives_load_at 24 (.tmp 1) rfl hp 0 (by rw [(ev (show az.tmps[1]? = some (.pointer (some ⟨hp, 0, none⟩)) from hk 1 rfl))]) [.int .u8 kind, .int .i64 next, .slice A n c] 3 (agg_struct Try.underlying24 _) sizePage rfl (fun j v hj => by rw [Nat.zero_add]; exact hx.keeps.cell (R2.out.cell hj)) ?_
      exact ⟨Grw.refl _ _, rfl⟩
    · intro az wz hx hB hk H
      obtain ⟨v28, h28, s28⟩ := H 2 rfl _ rfl 28 rfl
      refine .inl ⟨wanted_none rfl, ?_⟩
      refine gives_call rfl Try.call13 (by simp only [List.map_toArray, List.map_cons, List.map_nil, ev h28]; rw [s28]) ?_
      exact (KG.out wz (X2.out.keeps.trans hx.keeps)).mono fun _ _ h => h.grw hB
    · intro az wz hx hB hk H
      obtain ⟨v27, h27, s27⟩ := H 1 rfl _ rfl 27 rfl
      obtain ⟨v29, h29, s29⟩ := H 3 rfl _ rfl 29 rfl
      refine .inl ⟨wanted_none rfl, ?_⟩
      refine gives_neq_bool true Try.underlying4 rfl (by rw [ev h27, s27]) (by rw [ev h29, s29]) ⟨Grw.refl _ _, rfl⟩
    · intro az wz hx hB hk H
      obtain ⟨v30, h30, s30⟩ := H 4 rfl _ rfl 30 rfl
      refine .inl ⟨wanted_none rfl, ?_⟩
      refine gives_move rfl ?_
      rw [(ev h30)]
      exact ⟨Grw.refl _ _, s30⟩
    · intro az wz hx hB hk H
      obtain ⟨v31, h31, s31⟩ := H 5 rfl _ rfl 31 rfl
      have g0 : az.tmps[31]? = some (.bool false) := by rw [h31]; exact congrArg some s31
      refine .inl ⟨wanted_yes _ rfl rfl rfl g0, ?_⟩
      refine gives_fieldP rfl (by rw [(ev (show az.tmps[1]? = some (.pointer (some ⟨hp, 0, none⟩)) from hk 1 rfl))]) (run_fieldQ _ 2 (by simp) _) ?_
      exact ⟨Grw.refl _ _, rfl⟩
    · intro az wz hx hB hk H
      obtain ⟨v31, h31, s31⟩ := H 5 rfl _ rfl 31 rfl
      obtain ⟨v32, h32, s32⟩ := H 6 rfl _ rfl 32 rfl
      have g0 : az.tmps[31]? = some (.bool false) := by rw [h31]; exact congrArg some s31
      refine .inl ⟨wanted_yes _ rfl rfl rfl g0, ?_⟩
      refine gives_load_one rfl (by rw [ev h32, s32]) Try.underlying22 (hx.keeps.cell (R2.out.cell (i := 2) rfl)) ?_
      exact ⟨Grw.refl _ _, rfl⟩
    · intro az wz hx hB hk H
      obtain ⟨v31, h31, s31⟩ := H 5 rfl _ rfl 31 rfl
      obtain ⟨v33, h33, s33⟩ := H 7 rfl _ rfl 33 rfl
      have g0 : az.tmps[31]? = some (.bool false) := by rw [h31]; exact congrArg some s31
      refine .inl ⟨wanted_yes _ rfl rfl rfl g0, ?_⟩
      refine gives_call rfl Try.call14 (by simp only [List.map_toArray, List.map_cons, List.map_nil, ev h33]; rw [s33]) ?_
      exact (KS.out wz (X2.out.keeps.trans hx.keeps)).mono fun _ _ h => h.grw hB
    · intro az wz hx hB hk H
      obtain ⟨v31, h31, s31⟩ := H 5 rfl _ rfl 31 rfl
      have g0 : az.tmps[31]? = some (.bool false) := by rw [h31]; exact congrArg some s31
      refine .inl ⟨wanted_yes _ rfl rfl rfl g0, ?_⟩
      refine gives_fieldP rfl (by rw [(ev (show az.tmps[1]? = some (.pointer (some ⟨hp, 0, none⟩)) from hk 1 rfl))]) (run_fieldQ _ 2 (by simp) _) ?_
      exact ⟨Grw.refl _ _, rfl⟩
    · intro az wz hx hB hk H
      obtain ⟨v31, h31, s31⟩ := H 5 rfl _ rfl 31 rfl
      obtain ⟨v35, h35, s35⟩ := H 9 rfl _ rfl 35 rfl
      have g0 : az.tmps[31]? = some (.bool false) := by rw [h31]; exact congrArg some s31
      refine .inl ⟨wanted_yes _ rfl rfl rfl g0, ?_⟩
      refine gives_load_one rfl (by rw [ev h35, s35]) Try.underlying22 (hx.keeps.cell (R2.out.cell (i := 2) rfl)) ?_
      exact ⟨Grw.refl _ _, rfl⟩
    · intro az wz hx hB hk H
      obtain ⟨v31, h31, s31⟩ := H 5 rfl _ rfl 31 rfl
      obtain ⟨v36, h36, s36⟩ := H 10 rfl _ rfl 36 rfl
      have g0 : az.tmps[31]? = some (.bool false) := by rw [h31]; exact congrArg some s31
      refine .inl ⟨wanted_yes _ rfl rfl rfl g0, ?_⟩
      refine gives_call rfl Try.call15 (by simp only [List.map_toArray, List.map_cons, List.map_nil, ev h36]; rw [s36]) ?_
      exact (KT.out wz (X2.out.keeps.trans hx.keeps)).mono fun _ _ ⟨he, q, hq⟩ => ⟨_, he, by rw [hq]; exact Grw.drewN _ _ _, rfl⟩
    · intro az wz hx hB hk H
      obtain ⟨v31, h31, s31⟩ := H 5 rfl _ rfl 31 rfl
      obtain ⟨v34, h34, s34⟩ := H 8 rfl _ rfl 34 rfl
      obtain ⟨v37, h37, s37⟩ := H 11 rfl _ rfl 37 rfl
      have g0 : az.tmps[31]? = some (.bool false) := by rw [h31]; exact congrArg some s31
      refine .inl ⟨wanted_yes _ rfl rfl rfl g0, ?_⟩
      refine gives_neq_int (k := .i64) (s : Int) rfl (by rw [ev h34, s34]) (by rw [ev h37, s37]) ⟨Grw.refl _ _, rfl⟩
    · intro az wz hx hB hk H
      obtain ⟨v31, h31, s31⟩ := H 5 rfl _ rfl 31 rfl
      obtain ⟨v38, h38, s38⟩ := H 12 rfl _ rfl 38 rfl
      refine .inl ⟨wanted_none rfl, ?_⟩
      refine gives_pick false rfl ?_ ?_
      · rw [(ev h31)]
        exact s31
      · show Grw _ _ _ ∧ _
        rw [if_neg (by decide), (ev h38)]
        exact ⟨Grw.refl _ _, s38⟩
  · intro az wz hx hd hs hv hsame
    obtain ⟨v26, h26, s26⟩ := hv 0 _ 26 rfl rfl
    obtain rfl : v26 = (.agg #[.int .u8 kind, .int .i64 next, .slice A n c]) := s26
    obtain ⟨v27, h27, s27⟩ := hv 1 _ 27 rfl rfl
    obtain rfl : v27 = (.bool true) := s27
    obtain ⟨v28, h28, s28⟩ := hv 2 _ 28 rfl rfl
    obtain rfl : v28 = (.agg #[.int .u8 kind, .int .i64 next, .slice A n c]) := s28
    obtain ⟨v29, h29, s29⟩ := hv 3 _ 29 rfl rfl
    obtain rfl : v29 = (.bool true) := s29
    obtain ⟨v30, h30, s30⟩ := hv 4 _ 30 rfl rfl
    obtain rfl : v30 = (.bool false) := s30
    obtain ⟨v31, h31, s31⟩ := hv 5 _ 31 rfl rfl
    obtain rfl : v31 = (.bool false) := s31
    obtain ⟨v32, h32, s32⟩ := hv 6 _ 32 rfl rfl
    obtain rfl : v32 = (.pointer (some ⟨hp, 2, none⟩)) := s32
    obtain ⟨v33, h33, s33⟩ := hv 7 _ 33 rfl rfl
    obtain rfl : v33 = (.slice A n c) := s33
    obtain ⟨v34, h34, s34⟩ := hv 8 _ 34 rfl rfl
    obtain rfl : v34 = (.int .i64 (s : Int)) := s34
    obtain ⟨v35, h35, s35⟩ := hv 9 _ 35 rfl rfl
    obtain rfl : v35 = (.pointer (some ⟨hp, 2, none⟩)) := s35
    obtain ⟨v36, h36, s36⟩ := hv 10 _ 36 rfl rfl
    obtain rfl : v36 = (.slice A n c) := s36
    obtain ⟨v37, h37, s37⟩ := hv 11 _ 37 rfl rfl
    obtain rfl : v37 = (.int .i64 (s : Int)) := s37
    obtain ⟨v38, h38, s38⟩ := hv 12 _ 38 rfl rfl
    obtain rfl : v38 = (.bool false) := s38
    obtain ⟨v39, h39, s39⟩ := hv 13 _ 39 rfl rfl
    obtain rfl : v39 = (.bool false) := s39
    have hfr := frame_last (k := 14) [(26, (.agg #[.int .u8 kind, .int .i64 next, .slice A n c])), (27, (.bool true)), (28, (.agg #[.int .u8 kind, .int .i64 next, .slice A n c])), (29, (.bool true)), (30, (.bool false)), (31, (.bool false)), (32, (.pointer (some ⟨hp, 2, none⟩))), (33, (.slice A n c)), (34, (.int .i64 (s : Int))), (35, (.pointer (some ⟨hp, 2, none⟩))), (36, (.slice A n c)), (37, (.int .i64 (s : Int))), (38, (.bool false)), (39, (.bool false))] hs (by kernel_rfl) (by simp only [List.forall_mem_cons, List.not_mem_nil, false_implies, implies_true, and_true]; exact ⟨h26, h27, h28, h29, h30, h31, h32, h33, h34, h35, h36, h37, h38, h39⟩) (fun t' h => hsame t' fun i o ho => h i o (by intro e; subst e; cases ho) ho)
    simp only [List.foldl_cons, List.foldl_nil, List.setIfInBounds_toArray, List.set_cons_succ, List.set_cons_zero] at hfr
    obtain ⟨tm, df⟩ := az
    simp only [] at hfr hd
    subst hfr hd
    clear hv hsame hs h26 h27 h28 h29 h30 h31 h32 h33 h34 h35 h36 h37 h38 h39
    have X3 : Hid (Ext w wz) := hide (X2.out.grw hx)
    have k0 := hx.keeps.cell (R2.out.cell (i := 0) rfl)
    have k1 := hx.keeps.cell (R2.out.cell (i := 1) rfl)
    have k2 := hx.keeps.cell (R2.out.cell (i := 2) rfl)
    clear hx KF KS KT X1 R1 R2 z2 KA hli hlj
    refine hK _ _ ?_
    go_upto_region 6 with (go_at_call 16; (with_reducible refine (KE.out _ X3.out).mono ?_); rintro e w4 ⟨v4, rfl, hx4, B1, d1, rfl, hd1, hb1⟩; have X4 := hide (X3.out.trans hx4); have m0 := hx4.keeps.cell k0; have m1 := hx4.keeps.cell k1; have m2 := hx4.keeps.cell k2; have B4 := hide hb1; have D4 := hide hd1; clear hx4 hb1 hd1)
    clear k0 k1 k2 KE
    go_upto_region 8 with (go_at_call 13; (with_reducible refine (KG.out _ X4.out.keeps).mono ?_); rintro e w5 ⟨v5, rfl, hx5, rfl⟩; have X5 := hide (X4.out.trans hx5); have B5 := hide (B4.out.ext hx5); have n0 := hx5.keeps.cell m0; have n1 := hx5.keeps.cell m1; have n2 := hx5.keeps.cell m2; clear hx5)
    clear m0 m1 m2 KG
    go_upto_region 9 with (go_at_call 17; (with_reducible refine (KD.out _ _ _ B5.out D4.out).mono ?_); rintro e w6 ⟨v6, rfl, hx6, A2, c2, rfl, hc2⟩; have X6 := hide (X5.out.trans hx6); have B6 := hide (B5.out.ext hx6); have C6 := hide hc2; have p0 := hx6.keeps.cell n0; have p1 := hx6.keeps.cell n1; have p2 := hx6.keeps.cell n2; clear hx6 hc2)
    clear n0 n1 n2 KD
    rename_i hKK
    obtain ⟨wE, xE, qE, hg⟩ : ∃ wE, Ext w6 wE ∧ Rw wE w6.heap.size 24 [.int .u8 kind, .int .i64 next, .slice A2 n c2] ∧ w6.alloc (.cells #[.int .u8 kind, .int .i64 next, .slice A2 n c2] 24) = wE := ⟨_, Ext.alloc _ _, Rw.new _ _ _, rfl⟩
    rw [hg]
    obtain ⟨hq, HHQ⟩ : ∃ hq, Hid (w6.heap.size = hq) := ⟨_, hide rfl⟩
    rw [HHQ.out] at qE ⊢
    have XE : Hid (Ext w wE) := hide (X6.out.trans xE)
    have QE := hide qE
    have RL := hide (B6.out.ext xE)
    have RE : Hid (∀ (i : Nat) (v : Value), [Value.int .u8 kind, .int .i64 next, .slice A n c][i]? = some v → wE.cell? ⟨hp, i, none⟩ = some v) := hide (three_cells (xE.keeps.cell p0) (xE.keeps.cell p1) (xE.keeps.cell p2))
    have KM := hide (fun (W : World) (hW : Keeps wE W) => KM0.out W A2 c2 (XE.out.keeps.trans hW) (C6.out.keep (xE.keeps.trans hW)))
    clear hg qE xE p0 p1 p2 KM0 B6 C6 X6 B5 X5 B4 X4
    refine wp_region_sp XE.out.size [
        Sp.is (.int .i64 0),
        Sp.is (.bool true),
        Sp.is (.bool true),
        Sp.is (.slice B1 504 d1),
        Sp.is (.string ⟨(LE).toArray⟩),
        Sp.is (.agg #[.int .u8 kind, .int .i64 next, .slice A n c]),
        Sp.bytes LE,
        Sp.is (.string ⟨(LE).toArray⟩),
        Sp.is (.bool true),
        Sp.is (.bool true),
        Sp.is (.bool true),
        Sp.is (.int .i64 0),
        Sp.is (.bool true),
        Sp.is (.bool true),
        Sp.is (.bool true),
        Sp.is (.pointer (some ⟨hq, 0, none⟩)),
        Sp.is (.int .u8 kind),
        Sp.is (.pointer (some ⟨hp, 0, none⟩)),
        Sp.is (.int .u8 kind),
        Sp.is (.bool true),
        Sp.is (.bool true),
        Sp.is (.bool true),
        Sp.is (.pointer (some ⟨hq, 1, none⟩)),
        Sp.is (.int .i64 next),
        Sp.is (.pointer (some ⟨hp, 1, none⟩)),
        Sp.is (.int .i64 next),
        Sp.is (.bool true),
        Sp.is (.bool true),
        Sp.is (.bool true),
        Sp.is (.pointer (some ⟨hq, 2, none⟩)),
        Sp.is (.slice A2 n c2),
        Sp.is (.pointer (some ⟨hp, 2, none⟩)),
        Sp.is (.slice A n c),
        Sp.is (.bool true),
        Sp.is (.bool true),
        Sp.is (.bool true)] (by kernel_rfl) (by kernel_rfl) ?_ ?_
    · refine ⟨?_, ?_, ?_, ?_, ?_, ?_, ?_, ?_, ?_, ?_, ?_, ?_, ?_, ?_, ?_, ?_, ?_, ?_, ?_, ?_, ?_, ?_, ?_, ?_, ?_, ?_, ?_, ?_, ?_, ?_, ?_, ?_, ?_, ?_, ?_, ?_, trivial⟩
      · intro az wz hx hB hk H
        refine .inl ⟨wanted_none rfl, ?_⟩
        refine gives_move rfl ?_
        rw [(ev (show az.tmps[4]? = some (.int .i64 0) from hk 4 rfl))]
        exact ⟨Grw.refl _ _, rfl⟩
      · intro az wz hx hB hk H
        obtain ⟨v60, h60, s60⟩ := H 0 rfl _ rfl 60 rfl
        refine .inl ⟨wanted_none rfl, ?_⟩
        refine gives_eql_int (k := .i64) (0) (0) rfl ?_ ?_ ⟨Grw.refl _ _, congrArg Value.bool (by simp)⟩
        · rw [(ev h60)]
          exact s60
        · rfl
      · intro az wz hx hB hk H
        obtain ⟨v61, h61, s61⟩ := H 1 rfl _ rfl 61 rfl
        refine .inl ⟨wanted_none rfl, ?_⟩
        refine gives_move rfl ?_
        rw [(ev h61)]
        exact ⟨Grw.refl _ _, s61⟩
      · intro az wz hx hB hk H
        obtain ⟨v62, h62, s62⟩ := H 2 rfl _ rfl 62 rfl
        have g0 : az.tmps[62]? = some (.bool true) := by rw [h62]; exact congrArg some s62
        refine .inl ⟨wanted_yes _ rfl rfl rfl g0, ?_⟩
        refine gives_move rfl ?_
        rw [(ev (show az.tmps[3]? = some (.slice B1 504 d1) from hk 3 rfl))]
        exact ⟨Grw.refl _ _, rfl⟩
      · intro az wz hx hB hk H
        obtain ⟨v62, h62, s62⟩ := H 2 rfl _ rfl 62 rfl
        obtain ⟨v63, h63, s63⟩ := H 3 rfl _ rfl 63 rfl
        have g0 : az.tmps[62]? = some (.bool true) := by rw [h62]; exact congrArg some s62
        refine .inl ⟨wanted_yes _ rfl rfl rfl g0, ?_⟩
        refine gives_conv rfl (by rw [ev h63, s63]) (str_any (RL.out.keep hx.keeps) 504 d1 HLE.out) ?_
        exact ⟨Grw.refl _ _, rfl⟩
      · intro az wz hx hB hk H
        obtain ⟨v62, h62, s62⟩ := H 2 rfl _ rfl 62 rfl
        have g0 : az.tmps[62]? = some (.bool true) := by rw [h62]; exact congrArg some s62
        refine .inl ⟨wanted_yes _ rfl rfl rfl g0, ?_⟩
        refine gives_load_at 24 (.tmp 1) rfl hp 0 (by rw [(ev (show az.tmps[1]? = some (.pointer (some ⟨hp, 0, none⟩)) from hk 1 rfl))]) [.int .u8 kind, .int .i64 next, .slice A n c] 3 (agg_struct Try.underlying24 _) sizePage rfl (fun j v hj => by rw [Nat.zero_add]; exact hx.keeps.cell (RE.out _ _ hj)) ?_
        exact ⟨Grw.refl _ _, rfl⟩
      · intro az wz hx hB hk H
        obtain ⟨v62, h62, s62⟩ := H 2 rfl _ rfl 62 rfl
        obtain ⟨v65, h65, s65⟩ := H 5 rfl _ rfl 65 rfl
        have g0 : az.tmps[62]? = some (.bool true) := by rw [h62]; exact congrArg some s62
        refine .inl ⟨wanted_yes _ rfl rfl rfl g0, ?_⟩
        refine gives_call rfl Try.call18 (by simp only [List.map_toArray, List.map_cons, List.map_nil, ev h65]; rw [s65]) ?_
        exact (KR.out wz (XE.out.keeps.trans hx.keeps)).mono fun _ _ h => h.grw hB
      · intro az wz hx hB hk H
        obtain ⟨v62, h62, s62⟩ := H 2 rfl _ rfl 62 rfl
        obtain ⟨v66, h66, s66⟩ := H 6 rfl _ rfl 66 rfl
        have g0 : az.tmps[62]? = some (.bool true) := by rw [h62]; exact congrArg some s62
        refine .inl ⟨wanted_yes _ rfl rfl rfl g0, ?_⟩
        refine gives_str (LE) rfl Try.underlying28 Try.underlying5 Try.underlying9 ?_ ⟨Grw.refl _ _, rfl⟩
        rw [(ev h66)]
        exact s66
      · intro az wz hx hB hk H
        obtain ⟨v62, h62, s62⟩ := H 2 rfl _ rfl 62 rfl
        obtain ⟨v64, h64, s64⟩ := H 4 rfl _ rfl 64 rfl
        obtain ⟨v67, h67, s67⟩ := H 7 rfl _ rfl 67 rfl
        have g0 : az.tmps[62]? = some (.bool true) := by rw [h62]; exact congrArg some s62
        refine .inl ⟨wanted_yes _ rfl rfl rfl g0, ?_⟩
        refine gives_eql_str (LE) (LE) rfl ?_ ?_ ⟨Grw.refl _ _, congrArg Value.bool (by simp)⟩
        · rw [(ev h64)]
          exact s64
        · rw [(ev h67)]
          exact s67
      · intro az wz hx hB hk H
        obtain ⟨v62, h62, s62⟩ := H 2 rfl _ rfl 62 rfl
        obtain ⟨v68, h68, s68⟩ := H 8 rfl _ rfl 68 rfl
        refine .inl ⟨wanted_none rfl, ?_⟩
        refine gives_pick true rfl ?_ ?_
        · rw [(ev h62)]
          exact s62
        · show Grw _ _ _ ∧ _
          rw [if_pos rfl, (ev h68)]
          exact ⟨Grw.refl _ _, s68⟩
      · intro az wz hx hB hk H
        obtain ⟨v69, h69, s69⟩ := H 9 rfl _ rfl 69 rfl
        refine .inl ⟨wanted_none rfl, ?_⟩
        refine gives_move rfl ?_
        rw [(ev h69)]
        exact ⟨Grw.refl _ _, s69⟩
      · intro az wz hx hB hk H
        obtain ⟨v70, h70, s70⟩ := H 10 rfl _ rfl 70 rfl
        have g0 : az.tmps[70]? = some (.bool true) := by rw [h70]; exact congrArg some s70
        refine .inl ⟨wanted_yes _ rfl rfl rfl g0, ?_⟩
        refine gives_move rfl ?_
        rw [(ev (show az.tmps[6]? = some (.int .i64 0) from hk 6 rfl))]
        exact ⟨Grw.refl _ _, rfl⟩
      · intro az wz hx hB hk H
        obtain ⟨v70, h70, s70⟩ := H 10 rfl _ rfl 70 rfl
        obtain ⟨v71, h71, s71⟩ := H 11 rfl _ rfl 71 rfl
        have g0 : az.tmps[70]? = some (.bool true) := by rw [h70]; exact congrArg some s70
        refine .inl ⟨wanted_yes _ rfl rfl rfl g0, ?_⟩
        refine gives_eql_int (k := .i64) (0) (0) rfl ?_ ?_ ⟨Grw.refl _ _, congrArg Value.bool (by simp)⟩
        · rw [(ev h71)]
          exact s71
        · rfl
      · intro az wz hx hB hk H
        obtain ⟨v70, h70, s70⟩ := H 10 rfl _ rfl 70 rfl
        obtain ⟨v72, h72, s72⟩ := H 12 rfl _ rfl 72 rfl
        refine .inl ⟨wanted_none rfl, ?_⟩
        refine gives_pick true rfl ?_ ?_
        · rw [(ev h70)]
          exact s70
        · show Grw _ _ _ ∧ _
          rw [if_pos rfl, (ev h72)]
          exact ⟨Grw.refl _ _, s72⟩
      · intro az wz hx hB hk H
        obtain ⟨v73, h73, s73⟩ := H 13 rfl _ rfl 73 rfl
        refine .inl ⟨wanted_none rfl, ?_⟩
        refine gives_move rfl ?_
        rw [(ev h73)]
        exact ⟨Grw.refl _ _, s73⟩
      · intro az wz hx hB hk H
        obtain ⟨v74, h74, s74⟩ := H 14 rfl _ rfl 74 rfl
        have g0 : az.tmps[74]? = some (.bool true) := by rw [h74]; exact congrArg some s74
        refine .inl ⟨wanted_yes _ rfl rfl rfl g0, ?_⟩
        refine gives_fieldP rfl (by rw [(ev (show az.tmps[5]? = some (.pointer (some ⟨hq, 0, none⟩)) from hk 5 rfl))]) (run_fieldQ _ 0 (by simp) _) ?_
        exact ⟨Grw.refl _ _, rfl⟩
      · intro az wz hx hB hk H
        obtain ⟨v74, h74, s74⟩ := H 14 rfl _ rfl 74 rfl
        obtain ⟨v75, h75, s75⟩ := H 15 rfl _ rfl 75 rfl
        have g0 : az.tmps[74]? = some (.bool true) := by rw [h74]; exact congrArg some s74
        refine .inl ⟨wanted_yes _ rfl rfl rfl g0, ?_⟩
        refine gives_loadI rfl (by rw [ev h75, s75]) Try.underlying5 (hx.keeps.cell (QE.out.cell (i := 0) rfl)) ?_
        exact ⟨Grw.refl _ _, rfl⟩
      · intro az wz hx hB hk H
        obtain ⟨v74, h74, s74⟩ := H 14 rfl _ rfl 74 rfl
        have g0 : az.tmps[74]? = some (.bool true) := by rw [h74]; exact congrArg some s74
        refine .inl ⟨wanted_yes _ rfl rfl rfl g0, ?_⟩
        refine gives_fieldP rfl (by rw [(ev (show az.tmps[1]? = some (.pointer (some ⟨hp, 0, none⟩)) from hk 1 rfl))]) (run_fieldQ _ 0 (by simp) _) ?_
        exact ⟨Grw.refl _ _, rfl⟩
      · intro az wz hx hB hk H
        obtain ⟨v74, h74, s74⟩ := H 14 rfl _ rfl 74 rfl
        obtain ⟨v77, h77, s77⟩ := H 17 rfl _ rfl 77 rfl
        have g0 : az.tmps[74]? = some (.bool true) := by rw [h74]; exact congrArg some s74
        refine .inl ⟨wanted_yes _ rfl rfl rfl g0, ?_⟩
        refine gives_loadI rfl (by rw [ev h77, s77]) Try.underlying5 (hx.keeps.cell (RE.out 0 _ rfl)) ?_
        exact ⟨Grw.refl _ _, rfl⟩
      · intro az wz hx hB hk H
        obtain ⟨v74, h74, s74⟩ := H 14 rfl _ rfl 74 rfl
        obtain ⟨v76, h76, s76⟩ := H 16 rfl _ rfl 76 rfl
        obtain ⟨v78, h78, s78⟩ := H 18 rfl _ rfl 78 rfl
        have g0 : az.tmps[74]? = some (.bool true) := by rw [h74]; exact congrArg some s74
        refine .inl ⟨wanted_yes _ rfl rfl rfl g0, ?_⟩
        refine gives_eql_int (k := .u8) (kind) (kind) rfl ?_ ?_ ⟨Grw.refl _ _, congrArg Value.bool (by simp)⟩
        · rw [(ev h76)]
          exact s76
        · rw [(ev h78)]
          exact s78
      · intro az wz hx hB hk H
        obtain ⟨v74, h74, s74⟩ := H 14 rfl _ rfl 74 rfl
        obtain ⟨v79, h79, s79⟩ := H 19 rfl _ rfl 79 rfl
        refine .inl ⟨wanted_none rfl, ?_⟩
        refine gives_pick true rfl ?_ ?_
        · rw [(ev h74)]
          exact s74
        · show Grw _ _ _ ∧ _
          rw [if_pos rfl, (ev h79)]
          exact ⟨Grw.refl _ _, s79⟩
      · intro az wz hx hB hk H
        obtain ⟨v80, h80, s80⟩ := H 20 rfl _ rfl 80 rfl
        refine .inl ⟨wanted_none rfl, ?_⟩
        refine gives_move rfl ?_
        rw [(ev h80)]
        exact ⟨Grw.refl _ _, s80⟩
      · intro az wz hx hB hk H
        obtain ⟨v81, h81, s81⟩ := H 21 rfl _ rfl 81 rfl
        have g0 : az.tmps[81]? = some (.bool true) := by rw [h81]; exact congrArg some s81
        refine .inl ⟨wanted_yes _ rfl rfl rfl g0, ?_⟩
        refine gives_fieldP rfl (by rw [(ev (show az.tmps[5]? = some (.pointer (some ⟨hq, 0, none⟩)) from hk 5 rfl))]) (run_fieldQ _ 1 (by simp) _) ?_
        exact ⟨Grw.refl _ _, rfl⟩
      · intro az wz hx hB hk H
        obtain ⟨v81, h81, s81⟩ := H 21 rfl _ rfl 81 rfl
        obtain ⟨v82, h82, s82⟩ := H 22 rfl _ rfl 82 rfl
        have g0 : az.tmps[81]? = some (.bool true) := by rw [h81]; exact congrArg some s81
        refine .inl ⟨wanted_yes _ rfl rfl rfl g0, ?_⟩
        refine gives_loadI rfl (by rw [ev h82, s82]) Try.underlying3 (hx.keeps.cell (QE.out.cell (i := 1) rfl)) ?_
        exact ⟨Grw.refl _ _, rfl⟩
      · intro az wz hx hB hk H
        obtain ⟨v81, h81, s81⟩ := H 21 rfl _ rfl 81 rfl
        have g0 : az.tmps[81]? = some (.bool true) := by rw [h81]; exact congrArg some s81
        refine .inl ⟨wanted_yes _ rfl rfl rfl g0, ?_⟩
        refine gives_fieldP rfl (by rw [(ev (show az.tmps[1]? = some (.pointer (some ⟨hp, 0, none⟩)) from hk 1 rfl))]) (run_fieldQ _ 1 (by simp) _) ?_
        exact ⟨Grw.refl _ _, rfl⟩
      · intro az wz hx hB hk H
        obtain ⟨v81, h81, s81⟩ := H 21 rfl _ rfl 81 rfl
        obtain ⟨v84, h84, s84⟩ := H 24 rfl _ rfl 84 rfl
        have g0 : az.tmps[81]? = some (.bool true) := by rw [h81]; exact congrArg some s81
        refine .inl ⟨wanted_yes _ rfl rfl rfl g0, ?_⟩
        refine gives_loadI rfl (by rw [ev h84, s84]) Try.underlying3 (hx.keeps.cell (RE.out 1 _ rfl)) ?_
        exact ⟨Grw.refl _ _, rfl⟩
      · intro az wz hx hB hk H
        obtain ⟨v81, h81, s81⟩ := H 21 rfl _ rfl 81 rfl
        obtain ⟨v83, h83, s83⟩ := H 23 rfl _ rfl 83 rfl
        obtain ⟨v85, h85, s85⟩ := H 25 rfl _ rfl 85 rfl
        have g0 : az.tmps[81]? = some (.bool true) := by rw [h81]; exact congrArg some s81
        refine .inl ⟨wanted_yes _ rfl rfl rfl g0, ?_⟩
        refine gives_eql_int (k := .i64) (next) (next) rfl ?_ ?_ ⟨Grw.refl _ _, congrArg Value.bool (by simp)⟩
        · rw [(ev h83)]
          exact s83
        · rw [(ev h85)]
          exact s85
      · intro az wz hx hB hk H
        obtain ⟨v81, h81, s81⟩ := H 21 rfl _ rfl 81 rfl
        obtain ⟨v86, h86, s86⟩ := H 26 rfl _ rfl 86 rfl
        refine .inl ⟨wanted_none rfl, ?_⟩
        refine gives_pick true rfl ?_ ?_
        · rw [(ev h81)]
          exact s81
        · show Grw _ _ _ ∧ _
          rw [if_pos rfl, (ev h86)]
          exact ⟨Grw.refl _ _, s86⟩
      · intro az wz hx hB hk H
        obtain ⟨v87, h87, s87⟩ := H 27 rfl _ rfl 87 rfl
        refine .inl ⟨wanted_none rfl, ?_⟩
        refine gives_move rfl ?_
        rw [(ev h87)]
        exact ⟨Grw.refl _ _, s87⟩
      · intro az wz hx hB hk H
        obtain ⟨v88, h88, s88⟩ := H 28 rfl _ rfl 88 rfl
        have g0 : az.tmps[88]? = some (.bool true) := by rw [h88]; exact congrArg some s88
        refine .inl ⟨wanted_yes _ rfl rfl rfl g0, ?_⟩
        refine gives_fieldP rfl (by rw [(ev (show az.tmps[5]? = some (.pointer (some ⟨hq, 0, none⟩)) from hk 5 rfl))]) (run_fieldQ _ 2 (by simp) _) ?_
        exact ⟨Grw.refl _ _, rfl⟩
      · intro az wz hx hB hk H
        obtain ⟨v88, h88, s88⟩ := H 28 rfl _ rfl 88 rfl
        obtain ⟨v89, h89, s89⟩ := H 29 rfl _ rfl 89 rfl
        have g0 : az.tmps[88]? = some (.bool true) := by rw [h88]; exact congrArg some s88
        refine .inl ⟨wanted_yes _ rfl rfl rfl g0, ?_⟩
        refine gives_load_one rfl (by rw [ev h89, s89]) Try.underlying22 (hx.keeps.cell (QE.out.cell (i := 2) rfl)) ?_
        exact ⟨Grw.refl _ _, rfl⟩
      · intro az wz hx hB hk H
        obtain ⟨v88, h88, s88⟩ := H 28 rfl _ rfl 88 rfl
        have g0 : az.tmps[88]? = some (.bool true) := by rw [h88]; exact congrArg some s88
        refine .inl ⟨wanted_yes _ rfl rfl rfl g0, ?_⟩
        refine gives_fieldP rfl (by rw [(ev (show az.tmps[1]? = some (.pointer (some ⟨hp, 0, none⟩)) from hk 1 rfl))]) (run_fieldQ _ 2 (by simp) _) ?_
        exact ⟨Grw.refl _ _, rfl⟩
      · intro az wz hx hB hk H
        obtain ⟨v88, h88, s88⟩ := H 28 rfl _ rfl 88 rfl
        obtain ⟨v91, h91, s91⟩ := H 31 rfl _ rfl 91 rfl
        have g0 : az.tmps[88]? = some (.bool true) := by rw [h88]; exact congrArg some s88
        refine .inl ⟨wanted_yes _ rfl rfl rfl g0, ?_⟩
        refine gives_load_one rfl (by rw [ev h91, s91]) Try.underlying22 (hx.keeps.cell (RE.out 2 _ rfl)) ?_
        exact ⟨Grw.refl _ _, rfl⟩
      · intro az wz hx hB hk H
        obtain ⟨v88, h88, s88⟩ := H 28 rfl _ rfl 88 rfl
        obtain ⟨v90, h90, s90⟩ := H 30 rfl _ rfl 90 rfl
        obtain ⟨v92, h92, s92⟩ := H 32 rfl _ rfl 92 rfl
        have g0 : az.tmps[88]? = some (.bool true) := by rw [h88]; exact congrArg some s88
        refine .inl ⟨wanted_yes _ rfl rfl rfl g0, ?_⟩
        refine gives_call rfl Try.call19 (by simp only [List.map_toArray, List.map_cons, List.map_nil, ev h90, ev h92]; rw [s90, s92]) ?_
        exact (KM.out wz hx.keeps).mono fun _ _ ⟨he, q, hq⟩ => ⟨_, he, by rw [hq]; exact Grw.drewN _ _ _, rfl⟩
      · intro az wz hx hB hk H
        obtain ⟨v88, h88, s88⟩ := H 28 rfl _ rfl 88 rfl
        obtain ⟨v93, h93, s93⟩ := H 33 rfl _ rfl 93 rfl
        refine .inl ⟨wanted_none rfl, ?_⟩
        refine gives_pick true rfl ?_ ?_
        · rw [(ev h88)]
          exact s88
        · show Grw _ _ _ ∧ _
          rw [if_pos rfl, (ev h93)]
          exact ⟨Grw.refl _ _, s93⟩
      · intro az wz hx hB hk H
        obtain ⟨v94, h94, s94⟩ := H 34 rfl _ rfl 94 rfl
        refine .inl ⟨wanted_none rfl, ?_⟩
        refine gives_assign rfl ?_
        rw [(ev h94)]
        exact ⟨Grw.refl _ _, s94⟩
    · intro az wz hx hd hs hv hsame
      obtain ⟨v, hv2, s2⟩ := hv 35 _ 2 rfl rfl
      obtain rfl : v = .bool true := s2
      refine hKK _ _ ?_
      refine wp_ret ?_
      refine bodyPost_ret (results_tmp rfl _ _ _) hd ?_
      refine ⟨_, rfl, XE.out.grw hx, ?_⟩
      simp [Is, hv2]
theorem pageEncodes_walk (A : Option Addr) (kind next : Int) (c : Nat) (L : List Cl) (w : World) (hr : RdC w A L) (hS : Small L) (hk0 : 0 ≤ kind) :
    Calls Try.prog 3 #[.agg #[.int .u8 kind, .int .i64 next, .slice A L.length c]] w (Ret w (Is (.bool true))) := by
  by_cases hl : 600 < L.length
  · exact pageEncodes_long A kind next _ c L w hr rfl hS hl
  cases hf : formB kind next L with
  | false => exact pageEncodes_no A kind next _ c L w hr rfl hS (by omega) hf
  | true => exact pageEncodes_yes A kind next _ c L w hr rfl hS (by omega) hk0 hf
end Go.Proofs.Ytmamhinpkioogaa
