/-
  OctetTexts: the walk.
-/
import Derived.Test.YtakmkcfljhfkdaaDoorOctK
import Derived.Test.YtakmkcfljhfkdaaDoorOctR
namespace Go.Proofs.YtakmkcfljhfkdaaDoor
open Go.RowKit

theorem parse_text (s r : List UInt8) : parse (esc s ++ 0 :: 1 :: r) = some (s, (esc s).length + 2) := by
  induction s with
  | nil => simp [esc, parse]
  | cons b s ih =>
    by_cases hb : b = 0
    · subst hb
      simp only [esc, if_true, List.cons_append]
      simp [parse, ih]
    · simp only [esc, if_neg hb, List.cons_append]
      cases he : esc s ++ 0 :: 1 :: r with
      | nil => simp at he
      | cons c t =>
        rw [he] at ih
        simp only [parse, ne_eq, hb, not_false_iff, if_true, ih]
        simp
theorem read_text (a s b : List UInt8) : rdTxt (a ++ text s ++ b) (a.length : Int) = (s, ((a.length + (text s).length : Nat) : Int), 0) := by
  have h : parse ((a ++ text s ++ b).drop a.length) = some (s, (text s).length) := by
    rw [List.append_assoc, List.drop_left]
    have e := parse_text s b
    unfold text
    rw [List.append_assoc]
    simpa using e
  rw [rdTxt_some _ a.length (by simp) s (text s).length h]
  simp

set_option maxRecDepth 20000 in
set_option maxHeartbeats 1600000 in
theorem texts_walk (A B : Option Addr) (c d : Nat) (a s b : List UInt8) (w : World) (ha : Rd w A a) (hb : Rd w B b) (hal : a.length ≤ 1048576) (hsl : s.length ≤ 1048576) (hbl : b.length ≤ 1048576) (ht : Tab w) :
    Calls Tryd.prog 5 #[.slice A a.length c, .string ⟨s.toArray⟩, .slice B b.length d] w (Ret w (Is (.bool true))) := by
  have hss : (⟨s.toArray⟩ : ByteArray).size ≤ 35184372088832 := by show s.toArray.size ≤ _; simp; omega
  have hx := (esc_length s).2
  have htl : (text s).length ≤ 2 * 1048576 + 2 := by unfold text; simp; omega
  have HR := hide (read_text a s b)
  have h7 : (a.length + (text s).length : Nat) = (a ++ text s).length := by simp
  obtain ⟨x, HT⟩ : ∃ x, Hid (text s = x) := ⟨_, rfl⟩
  rw [HT.out] at htl h7
  obtain ⟨y, HY⟩ : ∃ y, Hid (a ++ x = y) := ⟨_, rfl⟩
  have hyl : y.length ≤ 4 * 1048576 := by rw [← HY.out]; simp; omega
  rw [HY.out] at h7
  obtain ⟨z, HZ⟩ : ∃ z, Hid (y ++ b = z) := ⟨_, rfl⟩
  have hzl : z.length ≤ 6 * 1048576 := by rw [← HZ.out]; simp; omega
  have K1 := hide fun W => (show Calls Tryd.prog 22 #[.string ⟨s.toArray⟩] W (Ret W (Bytes x)) from HT.out ▸ text_any ⟨s.toArray⟩ W hss)
  have K3 := hide fun W => (show Calls Tryd.prog 23 #[.string ⟨s.toArray⟩] W (Ret W (Bytes x)) from HT.out ▸ rtext_any ⟨s.toArray⟩ W hss)
  have K2 := hide fun (A : Option Addr) (c : Nat) (W : World) (hr : Rd W A z) => (show Calls Tryd.prog 20 #[.slice A z.length c, .int .i64 (a.length : Int)] W (Ret W (Is (.tuple #[.string ⟨s.toArray⟩, .int .i64 (y.length : Int), .int .i64 0])))
    from (by
      have := readText_any A c z (a.length : Int) W hr (by omega) (by omega)
      have e := HR.out
      rw [HT.out, HY.out, HZ.out, h7] at e
      rw [e] at this
      exact this))
  clear hx h7 HR
  go_enter Tryd.func5, Tryd.ntmps5
  go_wp2_with (first
    | (go_at_call 11; refine (awake_any _ ht).mono ?_; rintro e w1 ⟨v, rfl, hw1, rfl⟩)
    | (at_builtin; refine wpList_cat rfl (.tmp 14) (.tmp 15) rfl w.heap.size _ _ a _ _ _ rfl rfl rfl (Own.nil _ _) (ha.ext hw1) (Below.size hw1) (by simp; omega) ?_; intro v2 w2 hown2 hb2; rw [List.nil_append] at hown2; have hw2 : Ext w w2 := Below.trans hw1 hb2)
    | (go_at_call 22; refine (K1.out _).mono ?_; rintro e w3 ⟨v3, rfl, hw3, A3, c3, rfl, hc3, hr3⟩; have hown3 := hown2.ext hw3; have hw4 := hw2.trans hw3)
    | (at_builtin; refine wpList_cat rfl (.tmp 17) (.tmp 19) rfl w.heap.size _ _ x _ _ _ rfl rfl rfl hown3 hr3 (Below.size hw4) (by omega) ?_; intro v5 w5 hown5 hb5; have hw5 : Ext w w5 := Below.trans hw4 hb5; rw [HY.out] at hown5; obtain ⟨A5, c5, rfl, hc5, hr5⟩ := hown5.bytes)
    | (at_builtin; refine wpList_cat rfl (.tmp 23) (.tmp 24) rfl w.heap.size _ _ b _ _ _ rfl rfl rfl hown5 (hb.ext hw5) (Below.size hw5) (by omega) ?_; intro v6 w6 hown6 hb6; have hw6 : Ext w w6 := Below.trans hw5 hb6; rw [HZ.out] at hown6; obtain ⟨A6, c6, rfl, hc6, hr6⟩ := hown6.bytes)
    | (go_at_call 20; refine (K2.out _ _ _ hr6).mono ?_; rintro e w7 ⟨v7, rfl, hw7, rfl⟩; have hw8 : Ext w w7 := hw6.trans hw7))
  rename_i hK
  refine wp_region_sp hw8.size [
      Sp.is (.string ⟨(s).toArray⟩),
      Sp.is (.string ⟨(s).toArray⟩),
      Sp.is (.bool true),
      Sp.is (.bool true),
      Sp.is (.int .i64 (y.length : Int)),
      Sp.is (.int .i64 (y.length : Int)),
      Sp.is (.bool true),
      Sp.is (.bool true),
      Sp.is (.bool true),
      Sp.is (.int .i64 0),
      Sp.is (.bool true),
      Sp.is (.bool true),
      Sp.is (.bool true),
      Sp.is (.string ⟨(s).toArray⟩),
      Sp.bytes x,
      Sp.is (.string ⟨(x).toArray⟩),
      Sp.is (.string ⟨(s).toArray⟩),
      Sp.bytes x,
      Sp.is (.string ⟨(x).toArray⟩),
      Sp.is (.bool true),
      Sp.is (.bool true),
      Sp.is (.bool true)] (by kernel_rfl) (by kernel_rfl) ?_ ?_
  · refine ⟨?_, ?_, ?_, ?_, ?_, ?_, ?_, ?_, ?_, ?_, ?_, ?_, ?_, ?_, ?_, ?_, ?_, ?_, ?_, ?_, ?_, ?_, trivial⟩
    · intro az wz hx hB hk H
      refine .inl ⟨wanted_none rfl, ?_⟩
      refine gives_move rfl ?_
      rw [(ev (show az.tmps[9]? = some (.string ⟨(s).toArray⟩) from hk 9 rfl))]
      exact ⟨Grw.refl _ _, rfl⟩
    · intro az wz hx hB hk H
      refine .inl ⟨wanted_none rfl, ?_⟩
      refine gives_move rfl ?_
      rw [(ev (show az.tmps[1]? = some (.string ⟨(s).toArray⟩) from hk 1 rfl))]
      exact ⟨Grw.refl _ _, rfl⟩
    · intro az wz hx hB hk H
      obtain ⟨v34, h34, s34⟩ := H 0 rfl _ rfl 34 rfl
      obtain ⟨v35, h35, s35⟩ := H 1 rfl _ rfl 35 rfl
      refine .inl ⟨wanted_none rfl, ?_⟩
      refine gives_eql_str (s) (s) rfl ?_ ?_ ⟨Grw.refl _ _, congrArg Value.bool (by simp)⟩
      · rw [(ev h34)]
        exact s34
      · rw [(ev h35)]
        exact s35
    · intro az wz hx hB hk H
      obtain ⟨v36, h36, s36⟩ := H 2 rfl _ rfl 36 rfl
      refine .inl ⟨wanted_none rfl, ?_⟩
      refine gives_move rfl ?_
      rw [(ev h36)]
      exact ⟨Grw.refl _ _, s36⟩
    · intro az wz hx hB hk H
      obtain ⟨v37, h37, s37⟩ := H 3 rfl _ rfl 37 rfl
      have g0 : az.tmps[37]? = some (.bool true) := by rw [h37]; exact congrArg some s37
      refine .inl ⟨wanted_yes _ rfl rfl rfl g0, ?_⟩
      refine gives_move rfl ?_
      rw [(ev (show az.tmps[10]? = some (.int .i64 (y.length : Int)) from hk 10 rfl))]
      exact ⟨Grw.refl _ _, rfl⟩
    · intro az wz hx hB hk H
      obtain ⟨v37, h37, s37⟩ := H 3 rfl _ rfl 37 rfl
      have g0 : az.tmps[37]? = some (.bool true) := by rw [h37]; exact congrArg some s37
      refine .inl ⟨wanted_yes _ rfl rfl rfl g0, ?_⟩
      refine gives_move rfl ?_
      rw [(ev (show az.tmps[8]? = some (.int .i64 (y.length : Int)) from hk 8 rfl))]
      exact ⟨Grw.refl _ _, rfl⟩
    · intro az wz hx hB hk H
      obtain ⟨v37, h37, s37⟩ := H 3 rfl _ rfl 37 rfl
      obtain ⟨v38, h38, s38⟩ := H 4 rfl _ rfl 38 rfl
      obtain ⟨v39, h39, s39⟩ := H 5 rfl _ rfl 39 rfl
      have g0 : az.tmps[37]? = some (.bool true) := by rw [h37]; exact congrArg some s37
      refine .inl ⟨wanted_yes _ rfl rfl rfl g0, ?_⟩
      refine gives_eql_int (k := .i64) ((y.length : Int)) ((y.length : Int)) rfl ?_ ?_ ⟨Grw.refl _ _, congrArg Value.bool (by simp)⟩
      · rw [(ev h38)]
        exact s38
      · rw [(ev h39)]
        exact s39
    · intro az wz hx hB hk H
      obtain ⟨v37, h37, s37⟩ := H 3 rfl _ rfl 37 rfl
      obtain ⟨v40, h40, s40⟩ := H 6 rfl _ rfl 40 rfl
      refine .inl ⟨wanted_none rfl, ?_⟩
      refine gives_pick true rfl ?_ ?_
      · rw [(ev h37)]
        exact s37
      · show Grw _ _ _ ∧ _
        rw [if_pos rfl, (ev h40)]
        exact ⟨Grw.refl _ _, s40⟩
    · intro az wz hx hB hk H
      obtain ⟨v41, h41, s41⟩ := H 7 rfl _ rfl 41 rfl
      refine .inl ⟨wanted_none rfl, ?_⟩
      refine gives_move rfl ?_
      rw [(ev h41)]
      exact ⟨Grw.refl _ _, s41⟩
    · intro az wz hx hB hk H
      obtain ⟨v42, h42, s42⟩ := H 8 rfl _ rfl 42 rfl
      have g0 : az.tmps[42]? = some (.bool true) := by rw [h42]; exact congrArg some s42
      refine .inl ⟨wanted_yes _ rfl rfl rfl g0, ?_⟩
      refine gives_move rfl ?_
      rw [(ev (show az.tmps[11]? = some (.int .i64 0) from hk 11 rfl))]
      exact ⟨Grw.refl _ _, rfl⟩
    · intro az wz hx hB hk H
      obtain ⟨v42, h42, s42⟩ := H 8 rfl _ rfl 42 rfl
      obtain ⟨v43, h43, s43⟩ := H 9 rfl _ rfl 43 rfl
      have g0 : az.tmps[42]? = some (.bool true) := by rw [h42]; exact congrArg some s42
      refine .inl ⟨wanted_yes _ rfl rfl rfl g0, ?_⟩
      refine gives_eql_int (k := .i64) (0) (0) rfl ?_ ?_ ⟨Grw.refl _ _, congrArg Value.bool (by simp)⟩
      · rw [(ev h43)]
        exact s43
      · rfl
    · intro az wz hx hB hk H
      obtain ⟨v42, h42, s42⟩ := H 8 rfl _ rfl 42 rfl
      obtain ⟨v44, h44, s44⟩ := H 10 rfl _ rfl 44 rfl
      refine .inl ⟨wanted_none rfl, ?_⟩
      refine gives_pick true rfl ?_ ?_
      · rw [(ev h42)]
        exact s42
      · show Grw _ _ _ ∧ _
        rw [if_pos rfl, (ev h44)]
        exact ⟨Grw.refl _ _, s44⟩
    · intro az wz hx hB hk H
      obtain ⟨v45, h45, s45⟩ := H 11 rfl _ rfl 45 rfl
      refine .inl ⟨wanted_none rfl, ?_⟩
      refine gives_move rfl ?_
      rw [(ev h45)]
      exact ⟨Grw.refl _ _, s45⟩
    · intro az wz hx hB hk H
      obtain ⟨v46, h46, s46⟩ := H 12 rfl _ rfl 46 rfl
      have g0 : az.tmps[46]? = some (.bool true) := by rw [h46]; exact congrArg some s46
      refine .inl ⟨wanted_yes _ rfl rfl rfl g0, ?_⟩
      refine gives_move rfl ?_
      rw [(ev (show az.tmps[1]? = some (.string ⟨(s).toArray⟩) from hk 1 rfl))]
      exact ⟨Grw.refl _ _, rfl⟩
    · intro az wz hx hB hk H
      obtain ⟨v46, h46, s46⟩ := H 12 rfl _ rfl 46 rfl
      obtain ⟨v47, h47, s47⟩ := H 13 rfl _ rfl 47 rfl
      have g0 : az.tmps[46]? = some (.bool true) := by rw [h46]; exact congrArg some s46
      refine .inl ⟨wanted_yes _ rfl rfl rfl g0, ?_⟩
      refine gives_call rfl Tryd.call22 (by simp only [List.map_toArray, List.map_cons, List.map_nil, ev h47]; rw [s47]) ?_
      exact (K1.out wz).mono fun _ _ h => h.grw hB
    · intro az wz hx hB hk H
      obtain ⟨v46, h46, s46⟩ := H 12 rfl _ rfl 46 rfl
      obtain ⟨v48, h48, s48⟩ := H 14 rfl _ rfl 48 rfl
      have g0 : az.tmps[46]? = some (.bool true) := by rw [h46]; exact congrArg some s46
      refine .inl ⟨wanted_yes _ rfl rfl rfl g0, ?_⟩
      refine gives_str (x) rfl Tryd.underlying27 Tryd.underlying5 Tryd.underlying9 ?_ ⟨Grw.refl _ _, rfl⟩
      rw [(ev h48)]
      exact s48
    · intro az wz hx hB hk H
      obtain ⟨v46, h46, s46⟩ := H 12 rfl _ rfl 46 rfl
      have g0 : az.tmps[46]? = some (.bool true) := by rw [h46]; exact congrArg some s46
      refine .inl ⟨wanted_yes _ rfl rfl rfl g0, ?_⟩
      refine gives_move rfl ?_
      rw [(ev (show az.tmps[1]? = some (.string ⟨(s).toArray⟩) from hk 1 rfl))]
      exact ⟨Grw.refl _ _, rfl⟩
    · intro az wz hx hB hk H
      obtain ⟨v46, h46, s46⟩ := H 12 rfl _ rfl 46 rfl
      obtain ⟨v50, h50, s50⟩ := H 16 rfl _ rfl 50 rfl
      have g0 : az.tmps[46]? = some (.bool true) := by rw [h46]; exact congrArg some s46
      refine .inl ⟨wanted_yes _ rfl rfl rfl g0, ?_⟩
      refine gives_call rfl Tryd.call23 (by simp only [List.map_toArray, List.map_cons, List.map_nil, ev h50]; rw [s50]) ?_
      exact (K3.out wz).mono fun _ _ h => h.grw hB
    · intro az wz hx hB hk H
      obtain ⟨v46, h46, s46⟩ := H 12 rfl _ rfl 46 rfl
      obtain ⟨v51, h51, s51⟩ := H 17 rfl _ rfl 51 rfl
      have g0 : az.tmps[46]? = some (.bool true) := by rw [h46]; exact congrArg some s46
      refine .inl ⟨wanted_yes _ rfl rfl rfl g0, ?_⟩
      refine gives_str (x) rfl Tryd.underlying27 Tryd.underlying5 Tryd.underlying9 ?_ ⟨Grw.refl _ _, rfl⟩
      rw [(ev h51)]
      exact s51
    · intro az wz hx hB hk H
      obtain ⟨v46, h46, s46⟩ := H 12 rfl _ rfl 46 rfl
      obtain ⟨v49, h49, s49⟩ := H 15 rfl _ rfl 49 rfl
      obtain ⟨v52, h52, s52⟩ := H 18 rfl _ rfl 52 rfl
      have g0 : az.tmps[46]? = some (.bool true) := by rw [h46]; exact congrArg some s46
      refine .inl ⟨wanted_yes _ rfl rfl rfl g0, ?_⟩
      refine gives_eql_str (x) (x) rfl ?_ ?_ ⟨Grw.refl _ _, congrArg Value.bool (by simp)⟩
      · rw [(ev h49)]
        exact s49
      · rw [(ev h52)]
        exact s52
    · intro az wz hx hB hk H
      obtain ⟨v46, h46, s46⟩ := H 12 rfl _ rfl 46 rfl
      obtain ⟨v53, h53, s53⟩ := H 19 rfl _ rfl 53 rfl
      refine .inl ⟨wanted_none rfl, ?_⟩
      refine gives_pick true rfl ?_ ?_
      · rw [(ev h46)]
        exact s46
      · show Grw _ _ _ ∧ _
        rw [if_pos rfl, (ev h53)]
        exact ⟨Grw.refl _ _, s53⟩
    · intro az wz hx hB hk H
      obtain ⟨v54, h54, s54⟩ := H 20 rfl _ rfl 54 rfl
      refine .inl ⟨wanted_none rfl, ?_⟩
      refine gives_assign rfl ?_
      rw [(ev h54)]
      exact ⟨Grw.refl _ _, s54⟩
  · intro az wz hx hd hs hv hsame
    obtain ⟨v, hv4, s4⟩ := hv 21 _ 6 rfl rfl
    obtain rfl : v = .bool true := s4
    refine hK _ _ ?_
    refine wp_ret ?_
    refine bodyPost_ret (results_tmp rfl _ _ _) hd ?_
    refine ⟨_, rfl, hw8.grw hx, ?_⟩
    simp [Is, hv4]
end Go.Proofs.YtakmkcfljhfkdaaDoor
