/-
  DigestHex: the walk.
-/
import Derived.Test.YtkkdljjdniacnaaDoorShaX
namespace Go.Proofs.YtkkdljjdniacnaaDoor
open Go.RowKit

set_option maxRecDepth 20000 in
set_option maxHeartbeats 1600000 in
theorem hex_walk (A B : Option Addr) (c d : Nat) (a b : List UInt8) (w : World) (hA : Rd w A a) (hB2 : Rd w B b) (hac : a.length ≤ c) (hbd : b.length ≤ d) (hal : a.length ≤ 1048576) (hbl : b.length ≤ 1048576) (ht : Tab w) :
    Calls Tryd.prog 6 #[.slice A a.length c, .slice B b.length d] w (Ret w (Is (.bool true))) := by
  obtain ⟨x, HX⟩ : ∃ x, Hid (hexL a = x) := ⟨_, rfl⟩
  have KA := hide fun W (h : Ext w W) => awake_any W (ht.ext h)
  have KH := hide fun W (h : Ext w W) => (show Calls Tryd.prog 18 #[.slice A a.length c] W (Ret W (Is (.string ⟨x.toArray⟩))) from HX.out ▸ hex_any A c a W (hA.ext h) (by omega))
  have KR := hide fun W (h : Ext w W) => (show Calls Tryd.prog 19 #[.slice A a.length c] W (Ret W (Is (.string ⟨x.toArray⟩))) from HX.out ▸ rhex_any A c a W (hA.ext h) (by omega))
  have KE := hide fun W (h : Ext w W) => equal_any A B c d a b W (hA.ext h) (hB2.ext h) (by omega)
  have KF := hide fun W (h : Ext w W) => (show Calls Tryd.prog 20 #[.slice A a.length c, .slice A a.length c] W (Ret W (Is (.bool true))) from (by
    have h3 := equal_any A A c c a a W (hA.ext h) (hA.ext h) (by omega)
    rw [show (a == a) = true by simp] at h3
    exact h3))
  go_enter Tryd.func6, Tryd.ntmps6
  go_wp2
  rename_i hK
  refine wp_region_sp (Nat.le_refl _) [
      Sp.is (.bool true),
      Sp.is (.bool true),
      Sp.is (.slice A a.length c),
      Sp.is (.string ⟨(x).toArray⟩),
      Sp.is (.slice A a.length c),
      Sp.is (.string ⟨(x).toArray⟩),
      Sp.is (.bool true),
      Sp.is (.bool true),
      Sp.is (.bool true),
      Sp.is (.slice A a.length c),
      Sp.is (.slice B b.length d),
      Sp.is (.bool (a == b)),
      Sp.is (.slice A a.length c),
      Sp.is (.string ⟨(a).toArray⟩),
      Sp.is (.slice B b.length d),
      Sp.is (.string ⟨(b).toArray⟩),
      Sp.is (.bool (a == b)),
      Sp.is (.bool true),
      Sp.is (.bool true),
      Sp.is (.bool true),
      Sp.is (.slice A a.length c),
      Sp.is (.slice A a.length c),
      Sp.is (.bool true),
      Sp.is (.bool true),
      Sp.is (.bool true)] (by kernel_rfl) (by kernel_rfl) ?_ ?_
  · refine ⟨?_, ?_, ?_, ?_, ?_, ?_, ?_, ?_, ?_, ?_, ?_, ?_, ?_, ?_, ?_, ?_, ?_, ?_, ?_, ?_, ?_, ?_, ?_, ?_, ?_, trivial⟩
    · intro az wz hx hB hk H
      refine .inl ⟨wanted_none rfl, ?_⟩
      refine gives_call (args := #[]) rfl Tryd.call10 (by simp) ?_
      exact (KA.out wz (Below.mono hx.below (Nat.le_refl _))).mono fun _ _ h => h.grw hB
    · intro az wz hx hB hk H
      obtain ⟨v5, h5, s5⟩ := H 0 rfl _ rfl 5 rfl
      refine .inl ⟨wanted_none rfl, ?_⟩
      refine gives_move rfl ?_
      rw [(ev h5)]
      exact ⟨Grw.refl _ _, s5⟩
    · intro az wz hx hB hk H
      obtain ⟨v6, h6, s6⟩ := H 1 rfl _ rfl 6 rfl
      have g0 : az.tmps[6]? = some (.bool true) := by rw [h6]; exact congrArg some s6
      refine .inl ⟨wanted_yes _ rfl rfl rfl g0, ?_⟩
      refine gives_move rfl ?_
      rw [(ev (show az.tmps[0]? = some (.slice A a.length c) from hk 0 rfl))]
      exact ⟨Grw.refl _ _, rfl⟩
    · intro az wz hx hB hk H
      obtain ⟨v6, h6, s6⟩ := H 1 rfl _ rfl 6 rfl
      obtain ⟨v7, h7, s7⟩ := H 2 rfl _ rfl 7 rfl
      have g0 : az.tmps[6]? = some (.bool true) := by rw [h6]; exact congrArg some s6
      refine .inl ⟨wanted_yes _ rfl rfl rfl g0, ?_⟩
      refine gives_call rfl Tryd.call18 (by simp only [List.map_toArray, List.map_cons, List.map_nil, ev h7]; rw [s7]) ?_
      exact (KH.out wz (Below.mono hx.below (Nat.le_refl _))).mono fun _ _ h => h.grw hB
    · intro az wz hx hB hk H
      obtain ⟨v6, h6, s6⟩ := H 1 rfl _ rfl 6 rfl
      have g0 : az.tmps[6]? = some (.bool true) := by rw [h6]; exact congrArg some s6
      refine .inl ⟨wanted_yes _ rfl rfl rfl g0, ?_⟩
      refine gives_move rfl ?_
      rw [(ev (show az.tmps[0]? = some (.slice A a.length c) from hk 0 rfl))]
      exact ⟨Grw.refl _ _, rfl⟩
    · intro az wz hx hB hk H
      obtain ⟨v6, h6, s6⟩ := H 1 rfl _ rfl 6 rfl
      obtain ⟨v9, h9, s9⟩ := H 4 rfl _ rfl 9 rfl
      have g0 : az.tmps[6]? = some (.bool true) := by rw [h6]; exact congrArg some s6
      refine .inl ⟨wanted_yes _ rfl rfl rfl g0, ?_⟩
      refine gives_call rfl Tryd.call19 (by simp only [List.map_toArray, List.map_cons, List.map_nil, ev h9]; rw [s9]) ?_
      exact (KR.out wz (Below.mono hx.below (Nat.le_refl _))).mono fun _ _ h => h.grw hB
    · intro az wz hx hB hk H
      obtain ⟨v6, h6, s6⟩ := H 1 rfl _ rfl 6 rfl
      obtain ⟨v8, h8, s8⟩ := H 3 rfl _ rfl 8 rfl
      obtain ⟨v10, h10, s10⟩ := H 5 rfl _ rfl 10 rfl
      have g0 : az.tmps[6]? = some (.bool true) := by rw [h6]; exact congrArg some s6
      refine .inl ⟨wanted_yes _ rfl rfl rfl g0, ?_⟩
      refine gives_eql_str (x) (x) rfl ?_ ?_ ⟨Grw.refl _ _, congrArg Value.bool (by simp)⟩
      · rw [(ev h8)]
        exact s8
      · rw [(ev h10)]
        exact s10
    · intro az wz hx hB hk H
      obtain ⟨v6, h6, s6⟩ := H 1 rfl _ rfl 6 rfl
      obtain ⟨v11, h11, s11⟩ := H 6 rfl _ rfl 11 rfl
      refine .inl ⟨wanted_none rfl, ?_⟩
      refine gives_pick true rfl ?_ ?_
      · rw [(ev h6)]
        exact s6
      · show Grw _ _ _ ∧ _
        rw [if_pos rfl, (ev h11)]
        exact ⟨Grw.refl _ _, s11⟩
    · intro az wz hx hB hk H
      obtain ⟨v12, h12, s12⟩ := H 7 rfl _ rfl 12 rfl
      refine .inl ⟨wanted_none rfl, ?_⟩
      refine gives_move rfl ?_
      rw [(ev h12)]
      exact ⟨Grw.refl _ _, s12⟩
    · intro az wz hx hB hk H
      obtain ⟨v13, h13, s13⟩ := H 8 rfl _ rfl 13 rfl
      have g0 : az.tmps[13]? = some (.bool true) := by rw [h13]; exact congrArg some s13
      refine .inl ⟨wanted_yes _ rfl rfl rfl g0, ?_⟩
      refine gives_move rfl ?_
      rw [(ev (show az.tmps[0]? = some (.slice A a.length c) from hk 0 rfl))]
      exact ⟨Grw.refl _ _, rfl⟩
    · intro az wz hx hB hk H
      obtain ⟨v13, h13, s13⟩ := H 8 rfl _ rfl 13 rfl
      have g0 : az.tmps[13]? = some (.bool true) := by rw [h13]; exact congrArg some s13
      refine .inl ⟨wanted_yes _ rfl rfl rfl g0, ?_⟩
      refine gives_move rfl ?_
      rw [(ev (show az.tmps[1]? = some (.slice B b.length d) from hk 1 rfl))]
      exact ⟨Grw.refl _ _, rfl⟩
    · intro az wz hx hB hk H
      obtain ⟨v13, h13, s13⟩ := H 8 rfl _ rfl 13 rfl
      obtain ⟨v14, h14, s14⟩ := H 9 rfl _ rfl 14 rfl
      obtain ⟨v15, h15, s15⟩ := H 10 rfl _ rfl 15 rfl
      have g0 : az.tmps[13]? = some (.bool true) := by rw [h13]; exact congrArg some s13
      refine .inl ⟨wanted_yes _ rfl rfl rfl g0, ?_⟩
      refine gives_call rfl Tryd.call20 (by simp only [List.map_toArray, List.map_cons, List.map_nil, ev h14, ev h15]; rw [s14, s15]) ?_
      exact (KE.out wz (Below.mono hx.below (Nat.le_refl _))).mono fun _ _ h => h.grw hB
    · intro az wz hx hB hk H
      obtain ⟨v13, h13, s13⟩ := H 8 rfl _ rfl 13 rfl
      have g0 : az.tmps[13]? = some (.bool true) := by rw [h13]; exact congrArg some s13
      refine .inl ⟨wanted_yes _ rfl rfl rfl g0, ?_⟩
      refine gives_move rfl ?_
      rw [(ev (show az.tmps[0]? = some (.slice A a.length c) from hk 0 rfl))]
      exact ⟨Grw.refl _ _, rfl⟩
    · intro az wz hx hB hk H
      obtain ⟨v13, h13, s13⟩ := H 8 rfl _ rfl 13 rfl
      obtain ⟨v17, h17, s17⟩ := H 12 rfl _ rfl 17 rfl
      have g0 : az.tmps[13]? = some (.bool true) := by rw [h13]; exact congrArg some s13
      refine .inl ⟨wanted_yes _ rfl rfl rfl g0, ?_⟩
      refine gives_str a rfl Tryd.underlying22 Tryd.underlying5 Tryd.underlying9 ?_ ⟨Grw.refl _ _, rfl⟩
      rw [ev h17]
      exact s17 ▸ ⟨A, c, rfl, hac, hA.ext (Below.mono hx.below (Nat.le_refl _))⟩
    · intro az wz hx hB hk H
      obtain ⟨v13, h13, s13⟩ := H 8 rfl _ rfl 13 rfl
      have g0 : az.tmps[13]? = some (.bool true) := by rw [h13]; exact congrArg some s13
      refine .inl ⟨wanted_yes _ rfl rfl rfl g0, ?_⟩
      refine gives_move rfl ?_
      rw [(ev (show az.tmps[1]? = some (.slice B b.length d) from hk 1 rfl))]
      exact ⟨Grw.refl _ _, rfl⟩
    · intro az wz hx hB hk H
      obtain ⟨v13, h13, s13⟩ := H 8 rfl _ rfl 13 rfl
      obtain ⟨v19, h19, s19⟩ := H 14 rfl _ rfl 19 rfl
      have g0 : az.tmps[13]? = some (.bool true) := by rw [h13]; exact congrArg some s13
      refine .inl ⟨wanted_yes _ rfl rfl rfl g0, ?_⟩
      refine gives_str b rfl Tryd.underlying22 Tryd.underlying5 Tryd.underlying9 ?_ ⟨Grw.refl _ _, rfl⟩
      rw [ev h19]
      exact s19 ▸ ⟨B, d, rfl, hbd, hB2.ext (Below.mono hx.below (Nat.le_refl _))⟩
    · intro az wz hx hB hk H
      obtain ⟨v13, h13, s13⟩ := H 8 rfl _ rfl 13 rfl
      obtain ⟨v18, h18, s18⟩ := H 13 rfl _ rfl 18 rfl
      obtain ⟨v20, h20, s20⟩ := H 15 rfl _ rfl 20 rfl
      have g0 : az.tmps[13]? = some (.bool true) := by rw [h13]; exact congrArg some s13
      refine .inl ⟨wanted_yes _ rfl rfl rfl g0, ?_⟩
      refine gives_eql_str a b rfl ?_ ?_ ⟨Grw.refl _ _, rfl⟩
      · rw [ev h18]
        exact s18
      · rw [ev h20]
        exact s20
    · intro az wz hx hB hk H
      obtain ⟨v13, h13, s13⟩ := H 8 rfl _ rfl 13 rfl
      obtain ⟨v16, h16, s16⟩ := H 11 rfl _ rfl 16 rfl
      obtain ⟨v21, h21, s21⟩ := H 16 rfl _ rfl 21 rfl
      have g0 : az.tmps[13]? = some (.bool true) := by rw [h13]; exact congrArg some s13
      refine .inl ⟨wanted_yes _ rfl rfl rfl g0, ?_⟩
      refine gives_eql_bool ((a == b)) ((a == b)) Tryd.underlying4 rfl ?_ ?_ ⟨Grw.refl _ _, congrArg Value.bool (by simp)⟩
      · rw [(ev h16)]
        exact s16
      · rw [(ev h21)]
        exact s21
    · intro az wz hx hB hk H
      obtain ⟨v13, h13, s13⟩ := H 8 rfl _ rfl 13 rfl
      obtain ⟨v22, h22, s22⟩ := H 17 rfl _ rfl 22 rfl
      refine .inl ⟨wanted_none rfl, ?_⟩
      refine gives_pick true rfl ?_ ?_
      · rw [(ev h13)]
        exact s13
      · show Grw _ _ _ ∧ _
        rw [if_pos rfl, (ev h22)]
        exact ⟨Grw.refl _ _, s22⟩
    · intro az wz hx hB hk H
      obtain ⟨v23, h23, s23⟩ := H 18 rfl _ rfl 23 rfl
      refine .inl ⟨wanted_none rfl, ?_⟩
      refine gives_move rfl ?_
      rw [(ev h23)]
      exact ⟨Grw.refl _ _, s23⟩
    · intro az wz hx hB hk H
      obtain ⟨v24, h24, s24⟩ := H 19 rfl _ rfl 24 rfl
      have g0 : az.tmps[24]? = some (.bool true) := by rw [h24]; exact congrArg some s24
      refine .inl ⟨wanted_yes _ rfl rfl rfl g0, ?_⟩
      refine gives_move rfl ?_
      rw [(ev (show az.tmps[0]? = some (.slice A a.length c) from hk 0 rfl))]
      exact ⟨Grw.refl _ _, rfl⟩
    · intro az wz hx hB hk H
      obtain ⟨v24, h24, s24⟩ := H 19 rfl _ rfl 24 rfl
      have g0 : az.tmps[24]? = some (.bool true) := by rw [h24]; exact congrArg some s24
      refine .inl ⟨wanted_yes _ rfl rfl rfl g0, ?_⟩
      refine gives_move rfl ?_
      rw [(ev (show az.tmps[0]? = some (.slice A a.length c) from hk 0 rfl))]
      exact ⟨Grw.refl _ _, rfl⟩
    · intro az wz hx hB hk H
      obtain ⟨v24, h24, s24⟩ := H 19 rfl _ rfl 24 rfl
      obtain ⟨v25, h25, s25⟩ := H 20 rfl _ rfl 25 rfl
      obtain ⟨v26, h26, s26⟩ := H 21 rfl _ rfl 26 rfl
      have g0 : az.tmps[24]? = some (.bool true) := by rw [h24]; exact congrArg some s24
      refine .inl ⟨wanted_yes _ rfl rfl rfl g0, ?_⟩
      refine gives_call rfl Tryd.call20 (by simp only [List.map_toArray, List.map_cons, List.map_nil, ev h25, ev h26]; rw [s25, s26]) ?_
      exact (KF.out wz (Below.mono hx.below (Nat.le_refl _))).mono fun _ _ h => h.grw hB
    · intro az wz hx hB hk H
      obtain ⟨v24, h24, s24⟩ := H 19 rfl _ rfl 24 rfl
      obtain ⟨v27, h27, s27⟩ := H 22 rfl _ rfl 27 rfl
      refine .inl ⟨wanted_none rfl, ?_⟩
      refine gives_pick true rfl ?_ ?_
      · rw [(ev h24)]
        exact s24
      · show Grw _ _ _ ∧ _
        rw [if_pos rfl, (ev h27)]
        exact ⟨Grw.refl _ _, s27⟩
    · intro az wz hx hB hk H
      obtain ⟨v28, h28, s28⟩ := H 23 rfl _ rfl 28 rfl
      refine .inl ⟨wanted_none rfl, ?_⟩
      refine gives_assign rfl ?_
      rw [(ev h28)]
      exact ⟨Grw.refl _ _, s28⟩
  · intro az wz hx hd hs hv hsame
    obtain ⟨v4, h4, s4⟩ := hv 24 _ 4 rfl rfl
    obtain rfl : v4 = .bool true := s4
    refine hK _ _ ?_
    refine wp_ret ?_
    refine bodyPost_ret (results_tmp rfl _ _ _) hd ?_
    refine ⟨_, rfl, hx.below, ?_⟩
    simp [Is, h4]
end Go.Proofs.YtkkdljjdniacnaaDoor
