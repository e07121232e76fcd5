/-
  OctetNumbers: for every number the law answers true: the walk.
-/
import Derived.Test.YtakmkcfljhfkdaaDoorOctK
import Derived.Test.YtakmkcfljhfkdaaDoorOctO
namespace Go.Proofs.YtakmkcfljhfkdaaDoor
open Go.RowKit

theorem rd_be64 (u : Int) (h0 : 0 ≤ u) (h1 : u < 18446744073709551616) : rdNum (be64 u) 0 = (u, 8, 0) := by
  unfold rdNum
  rw [if_neg (by simp [be64_length]), if_neg (by simp [be64_length])]
  have : ((be64 u).drop (0 : Int).toNat).take 8 = be64 u := by
    show (be64 u).take 8 = be64 u
    exact List.take_of_length_le (by rw [be64_length]; omega)
  rw [this, num_be64 u h0 h1]
  rfl
theorem rd_ord64 (n : Int) (h0 : -9223372036854775808 ≤ n) (h1 : n < 9223372036854775808) : rdOrd (ord64 n) 0 = (n, 8, 0) := by
  unfold rdOrd ord64
  rw [rd_be64 _ (by omega) (by omega)]
  simp
theorem uintRead (u : Int) (h0 : 0 ≤ u) (h1 : u < 18446744073709551616) (A : Option Addr) (c : Nat) (W : World) (hr : Rd W A (be64 u)) :
    Calls Tryd.prog 12 #[.slice A (be64 u).length c, .int .i64 0] W fun e w' => e = .returned (.tuple #[.int .u64 u, .int .i64 8, .int .i64 0]) ∧ W = w' := by
  have h := readUint_any A c (be64 u) 0 W hr (by rw [be64_length]; omega) (by omega)
  rw [rd_be64 u h0 h1] at h
  exact h
theorem intRead (n : Int) (h0 : -9223372036854775808 ≤ n) (h1 : n < 9223372036854775808) (A : Option Addr) (c : Nat) (W : World) (hr : Rd W A (ord64 n)) :
    Calls Tryd.prog 14 #[.slice A (ord64 n).length c, .int .i64 0] W fun e w' => e = .returned (.tuple #[.int .i64 n, .int .i64 8, .int .i64 0]) ∧ W = w' := by
  have h := readInt_any A c (ord64 n) 0 W hr (by unfold ord64; rw [be64_length]; omega) (by omega)
  rw [rd_ord64 n h0 h1] at h
  exact h

set_option maxRecDepth 20000 in
set_option maxHeartbeats 1600000 in
theorem numbers_walk (u n : Int) (w : World) (h0 : 0 ≤ u) (h1 : u < 18446744073709551616) (h2 : -9223372036854775808 ≤ n) (h3 : n < 9223372036854775808) (ht : Tab w) :
    Calls Tryd.prog 3 #[.int .u64 u, .int .i64 n] w (Ret w (Is (.bool true))) := by
  go_enter Tryd.func3, Tryd.ntmps3
  go_wp2_with (first
    | (go_at_call 11; refine (awake_any _ ht).mono ?_; rintro e w1 ⟨v, rfl, hw1, rfl⟩)
    | (go_at_call 13; refine (uint_any u _ h0 h1).mono ?_; rintro e w2 ⟨v2, rfl, hw2, A2, c2, rfl, hc2, hr2⟩; have hw3 := hw1.trans hw2)
    | (go_at_call 12; refine (uintRead u h0 h1 _ _ _ hr2).mono ?_; rintro e w4 ⟨rfl, rfl⟩)
    | (go_at_call 15; refine (int_any n _ h2 h3).mono ?_; rintro e w6 ⟨v6, rfl, hw6, A6, c6, rfl, hc6, hr6⟩; have hw8 := hw3.trans hw6)
    | (go_at_call 14; refine (intRead n h2 h3 _ _ _ hr6).mono ?_; rintro e w7 ⟨rfl, rfl⟩))
  rename_i hK
  refine wp_region_sp (Ext.size hw8) [
      Sp.is (.int .u64 u),
      Sp.bytes (be64 u),
      Sp.is (.string ⟨((be64 u)).toArray⟩),
      Sp.is (.int .u64 u),
      Sp.bytes (be64 u),
      Sp.is (.string ⟨((be64 u)).toArray⟩),
      Sp.is (.bool true),
      Sp.is (.bool true),
      Sp.is (.int .i64 n),
      Sp.bytes (ord64 n),
      Sp.is (.string ⟨((ord64 n)).toArray⟩),
      Sp.is (.int .i64 n),
      Sp.bytes (ord64 n),
      Sp.is (.string ⟨((ord64 n)).toArray⟩),
      Sp.is (.bool true),
      Sp.is (.bool true),
      Sp.is (.bool true),
      Sp.is (.int .u64 u),
      Sp.is (.int .u64 u),
      Sp.is (.bool true),
      Sp.is (.bool true),
      Sp.is (.bool true),
      Sp.is (.int .i64 n),
      Sp.is (.int .i64 n),
      Sp.is (.bool true),
      Sp.is (.bool true),
      Sp.is (.bool true),
      Sp.is (.int .i64 8),
      Sp.is (.bool true),
      Sp.is (.bool true),
      Sp.is (.bool true),
      Sp.is (.int .i64 8),
      Sp.is (.bool true),
      Sp.is (.bool true),
      Sp.is (.bool true),
      Sp.is (.int .i64 0),
      Sp.is (.bool true),
      Sp.is (.bool true),
      Sp.is (.bool true),
      Sp.is (.int .i64 0),
      Sp.is (.bool true),
      Sp.is (.bool true),
      Sp.is (.bool true)] (by kernel_rfl) (by kernel_rfl) ?_ ?_
  · refine ⟨?_, ?_, ?_, ?_, ?_, ?_, ?_, ?_, ?_, ?_, ?_, ?_, ?_, ?_, ?_, ?_, ?_, ?_, ?_, ?_, ?_, ?_, ?_, ?_, ?_, ?_, ?_, ?_, ?_, ?_, ?_, ?_, ?_, ?_, ?_, ?_, ?_, ?_, ?_, ?_, ?_, ?_, ?_, trivial⟩
    · intro az wz hx hB hk H
      refine .inl ⟨wanted_none rfl, ?_⟩
      refine gives_move rfl ?_
      rw [(ev (show az.tmps[0]? = some (.int .u64 u) from hk 0 rfl))]
      exact ⟨Grw.refl _ _, rfl⟩
    · intro az wz hx hB hk H
      obtain ⟨v27, h27, s27⟩ := H 0 rfl _ rfl 27 rfl
      refine .inl ⟨wanted_none rfl, ?_⟩
      refine gives_call rfl Tryd.call13 (by simp only [List.map_toArray, List.map_cons, List.map_nil, ev h27]; rw [s27]) ?_
      exact (uint_any _ wz h0 h1).mono fun _ _ h => h.grw hB
    · intro az wz hx hB hk H
      obtain ⟨v28, h28, s28⟩ := H 1 rfl _ rfl 28 rfl
      refine .inl ⟨wanted_none rfl, ?_⟩
      refine gives_str ((be64 u)) rfl Tryd.underlying27 Tryd.underlying5 Tryd.underlying9 ?_ ⟨Grw.refl _ _, rfl⟩
      rw [(ev h28)]
      exact s28
    · intro az wz hx hB hk H
      refine .inl ⟨wanted_none rfl, ?_⟩
      refine gives_move rfl ?_
      rw [(ev (show az.tmps[0]? = some (.int .u64 u) from hk 0 rfl))]
      exact ⟨Grw.refl _ _, rfl⟩
    · intro az wz hx hB hk H
      obtain ⟨v30, h30, s30⟩ := H 3 rfl _ rfl 30 rfl
      refine .inl ⟨wanted_none rfl, ?_⟩
      refine gives_call rfl Tryd.call16 (by simp only [List.map_toArray, List.map_cons, List.map_nil, ev h30]; rw [s30]) ?_
      exact (ruint_any _ wz h0 h1).mono fun _ _ h => h.grw hB
    · intro az wz hx hB hk H
      obtain ⟨v31, h31, s31⟩ := H 4 rfl _ rfl 31 rfl
      refine .inl ⟨wanted_none rfl, ?_⟩
      refine gives_str ((be64 u)) rfl Tryd.underlying27 Tryd.underlying5 Tryd.underlying9 ?_ ⟨Grw.refl _ _, rfl⟩
      rw [(ev h31)]
      exact s31
    · intro az wz hx hB hk H
      obtain ⟨v29, h29, s29⟩ := H 2 rfl _ rfl 29 rfl
      obtain ⟨v32, h32, s32⟩ := H 5 rfl _ rfl 32 rfl
      refine .inl ⟨wanted_none rfl, ?_⟩
      refine gives_eql_str ((be64 u)) ((be64 u)) rfl ?_ ?_ ⟨Grw.refl _ _, congrArg Value.bool (by simp)⟩
      · rw [(ev h29)]
        exact s29
      · rw [(ev h32)]
        exact s32
    · intro az wz hx hB hk H
      obtain ⟨v33, h33, s33⟩ := H 6 rfl _ rfl 33 rfl
      refine .inl ⟨wanted_none rfl, ?_⟩
      refine gives_move rfl ?_
      rw [(ev h33)]
      exact ⟨Grw.refl _ _, s33⟩
    · intro az wz hx hB hk H
      obtain ⟨v34, h34, s34⟩ := H 7 rfl _ rfl 34 rfl
      have g0 : az.tmps[34]? = some (.bool true) := by rw [h34]; exact congrArg some s34
      refine .inl ⟨wanted_yes _ rfl rfl rfl g0, ?_⟩
      refine gives_move rfl ?_
      rw [(ev (show az.tmps[1]? = some (.int .i64 n) from hk 1 rfl))]
      exact ⟨Grw.refl _ _, rfl⟩
    · intro az wz hx hB hk H
      obtain ⟨v34, h34, s34⟩ := H 7 rfl _ rfl 34 rfl
      obtain ⟨v35, h35, s35⟩ := H 8 rfl _ rfl 35 rfl
      have g0 : az.tmps[34]? = some (.bool true) := by rw [h34]; exact congrArg some s34
      refine .inl ⟨wanted_yes _ rfl rfl rfl g0, ?_⟩
      refine gives_call rfl Tryd.call15 (by simp only [List.map_toArray, List.map_cons, List.map_nil, ev h35]; rw [s35]) ?_
      exact (int_any _ wz h2 h3).mono fun _ _ h => h.grw hB
    · intro az wz hx hB hk H
      obtain ⟨v34, h34, s34⟩ := H 7 rfl _ rfl 34 rfl
      obtain ⟨v36, h36, s36⟩ := H 9 rfl _ rfl 36 rfl
      have g0 : az.tmps[34]? = some (.bool true) := by rw [h34]; exact congrArg some s34
      refine .inl ⟨wanted_yes _ rfl rfl rfl g0, ?_⟩
      refine gives_str ((ord64 n)) rfl Tryd.underlying27 Tryd.underlying5 Tryd.underlying9 ?_ ⟨Grw.refl _ _, rfl⟩
      rw [(ev h36)]
      exact s36
    · intro az wz hx hB hk H
      obtain ⟨v34, h34, s34⟩ := H 7 rfl _ rfl 34 rfl
      have g0 : az.tmps[34]? = some (.bool true) := by rw [h34]; exact congrArg some s34
      refine .inl ⟨wanted_yes _ rfl rfl rfl g0, ?_⟩
      refine gives_move rfl ?_
      rw [(ev (show az.tmps[1]? = some (.int .i64 n) from hk 1 rfl))]
      exact ⟨Grw.refl _ _, rfl⟩
    · intro az wz hx hB hk H
      obtain ⟨v34, h34, s34⟩ := H 7 rfl _ rfl 34 rfl
      obtain ⟨v38, h38, s38⟩ := H 11 rfl _ rfl 38 rfl
      have g0 : az.tmps[34]? = some (.bool true) := by rw [h34]; exact congrArg some s34
      refine .inl ⟨wanted_yes _ rfl rfl rfl g0, ?_⟩
      refine gives_call rfl Tryd.call17 (by simp only [List.map_toArray, List.map_cons, List.map_nil, ev h38]; rw [s38]) ?_
      exact (rint_any _ wz h2 h3).mono fun _ _ h => h.grw hB
    · intro az wz hx hB hk H
      obtain ⟨v34, h34, s34⟩ := H 7 rfl _ rfl 34 rfl
      obtain ⟨v39, h39, s39⟩ := H 12 rfl _ rfl 39 rfl
      have g0 : az.tmps[34]? = some (.bool true) := by rw [h34]; exact congrArg some s34
      refine .inl ⟨wanted_yes _ rfl rfl rfl g0, ?_⟩
      refine gives_str ((ord64 n)) rfl Tryd.underlying27 Tryd.underlying5 Tryd.underlying9 ?_ ⟨Grw.refl _ _, rfl⟩
      rw [(ev h39)]
      exact s39
    · intro az wz hx hB hk H
      obtain ⟨v34, h34, s34⟩ := H 7 rfl _ rfl 34 rfl
      obtain ⟨v37, h37, s37⟩ := H 10 rfl _ rfl 37 rfl
      obtain ⟨v40, h40, s40⟩ := H 13 rfl _ rfl 40 rfl
      have g0 : az.tmps[34]? = some (.bool true) := by rw [h34]; exact congrArg some s34
      refine .inl ⟨wanted_yes _ rfl rfl rfl g0, ?_⟩
      refine gives_eql_str ((ord64 n)) ((ord64 n)) rfl ?_ ?_ ⟨Grw.refl _ _, congrArg Value.bool (by simp)⟩
      · rw [(ev h37)]
        exact s37
      · rw [(ev h40)]
        exact s40
    · intro az wz hx hB hk H
      obtain ⟨v34, h34, s34⟩ := H 7 rfl _ rfl 34 rfl
      obtain ⟨v41, h41, s41⟩ := H 14 rfl _ rfl 41 rfl
      refine .inl ⟨wanted_none rfl, ?_⟩
      refine gives_pick true rfl ?_ ?_
      · rw [(ev h34)]
        exact s34
      · show Grw _ _ _ ∧ _
        rw [if_pos rfl, (ev h41)]
        exact ⟨Grw.refl _ _, s41⟩
    · intro az wz hx hB hk H
      obtain ⟨v42, h42, s42⟩ := H 15 rfl _ rfl 42 rfl
      refine .inl ⟨wanted_none rfl, ?_⟩
      refine gives_move rfl ?_
      rw [(ev h42)]
      exact ⟨Grw.refl _ _, s42⟩
    · intro az wz hx hB hk H
      obtain ⟨v43, h43, s43⟩ := H 16 rfl _ rfl 43 rfl
      have g0 : az.tmps[43]? = some (.bool true) := by rw [h43]; exact congrArg some s43
      refine .inl ⟨wanted_yes _ rfl rfl rfl g0, ?_⟩
      refine gives_move rfl ?_
      rw [(ev (show az.tmps[5]? = some (.int .u64 u) from hk 5 rfl))]
      exact ⟨Grw.refl _ _, rfl⟩
    · intro az wz hx hB hk H
      obtain ⟨v43, h43, s43⟩ := H 16 rfl _ rfl 43 rfl
      have g0 : az.tmps[43]? = some (.bool true) := by rw [h43]; exact congrArg some s43
      refine .inl ⟨wanted_yes _ rfl rfl rfl g0, ?_⟩
      refine gives_move rfl ?_
      rw [(ev (show az.tmps[0]? = some (.int .u64 u) from hk 0 rfl))]
      exact ⟨Grw.refl _ _, rfl⟩
    · intro az wz hx hB hk H
      obtain ⟨v43, h43, s43⟩ := H 16 rfl _ rfl 43 rfl
      obtain ⟨v44, h44, s44⟩ := H 17 rfl _ rfl 44 rfl
      obtain ⟨v45, h45, s45⟩ := H 18 rfl _ rfl 45 rfl
      have g0 : az.tmps[43]? = some (.bool true) := by rw [h43]; exact congrArg some s43
      refine .inl ⟨wanted_yes _ rfl rfl rfl g0, ?_⟩
      refine gives_eql_int (k := .u64) (u) (u) rfl ?_ ?_ ⟨Grw.refl _ _, congrArg Value.bool (by simp)⟩
      · rw [(ev h44)]
        exact s44
      · rw [(ev h45)]
        exact s45
    · intro az wz hx hB hk H
      obtain ⟨v43, h43, s43⟩ := H 16 rfl _ rfl 43 rfl
      obtain ⟨v46, h46, s46⟩ := H 19 rfl _ rfl 46 rfl
      refine .inl ⟨wanted_none rfl, ?_⟩
      refine gives_pick true rfl ?_ ?_
      · rw [(ev h43)]
        exact s43
      · show Grw _ _ _ ∧ _
        rw [if_pos rfl, (ev h46)]
        exact ⟨Grw.refl _ _, s46⟩
    · intro az wz hx hB hk H
      obtain ⟨v47, h47, s47⟩ := H 20 rfl _ rfl 47 rfl
      refine .inl ⟨wanted_none rfl, ?_⟩
      refine gives_move rfl ?_
      rw [(ev h47)]
      exact ⟨Grw.refl _ _, s47⟩
    · intro az wz hx hB hk H
      obtain ⟨v48, h48, s48⟩ := H 21 rfl _ rfl 48 rfl
      have g0 : az.tmps[48]? = some (.bool true) := by rw [h48]; exact congrArg some s48
      refine .inl ⟨wanted_yes _ rfl rfl rfl g0, ?_⟩
      refine gives_move rfl ?_
      rw [(ev (show az.tmps[8]? = some (.int .i64 n) from hk 8 rfl))]
      exact ⟨Grw.refl _ _, rfl⟩
    · intro az wz hx hB hk H
      obtain ⟨v48, h48, s48⟩ := H 21 rfl _ rfl 48 rfl
      have g0 : az.tmps[48]? = some (.bool true) := by rw [h48]; exact congrArg some s48
      refine .inl ⟨wanted_yes _ rfl rfl rfl g0, ?_⟩
      refine gives_move rfl ?_
      rw [(ev (show az.tmps[1]? = some (.int .i64 n) from hk 1 rfl))]
      exact ⟨Grw.refl _ _, rfl⟩
    · intro az wz hx hB hk H
      obtain ⟨v48, h48, s48⟩ := H 21 rfl _ rfl 48 rfl
      obtain ⟨v49, h49, s49⟩ := H 22 rfl _ rfl 49 rfl
      obtain ⟨v50, h50, s50⟩ := H 23 rfl _ rfl 50 rfl
      have g0 : az.tmps[48]? = some (.bool true) := by rw [h48]; exact congrArg some s48
      refine .inl ⟨wanted_yes _ rfl rfl rfl g0, ?_⟩
      refine gives_eql_int (k := .i64) (n) (n) rfl ?_ ?_ ⟨Grw.refl _ _, congrArg Value.bool (by simp)⟩
      · rw [(ev h49)]
        exact s49
      · rw [(ev h50)]
        exact s50
    · intro az wz hx hB hk H
      obtain ⟨v48, h48, s48⟩ := H 21 rfl _ rfl 48 rfl
      obtain ⟨v51, h51, s51⟩ := H 24 rfl _ rfl 51 rfl
      refine .inl ⟨wanted_none rfl, ?_⟩
      refine gives_pick true rfl ?_ ?_
      · rw [(ev h48)]
        exact s48
      · show Grw _ _ _ ∧ _
        rw [if_pos rfl, (ev h51)]
        exact ⟨Grw.refl _ _, s51⟩
    · intro az wz hx hB hk H
      obtain ⟨v52, h52, s52⟩ := H 25 rfl _ rfl 52 rfl
      refine .inl ⟨wanted_none rfl, ?_⟩
      refine gives_move rfl ?_
      rw [(ev h52)]
      exact ⟨Grw.refl _ _, s52⟩
    · intro az wz hx hB hk H
      obtain ⟨v53, h53, s53⟩ := H 26 rfl _ rfl 53 rfl
      have g0 : az.tmps[53]? = some (.bool true) := by rw [h53]; exact congrArg some s53
      refine .inl ⟨wanted_yes _ rfl rfl rfl g0, ?_⟩
      refine gives_move rfl ?_
      rw [(ev (show az.tmps[6]? = some (.int .i64 8) from hk 6 rfl))]
      exact ⟨Grw.refl _ _, rfl⟩
    · intro az wz hx hB hk H
      obtain ⟨v53, h53, s53⟩ := H 26 rfl _ rfl 53 rfl
      obtain ⟨v54, h54, s54⟩ := H 27 rfl _ rfl 54 rfl
      have g0 : az.tmps[53]? = some (.bool true) := by rw [h53]; exact congrArg some s53
      refine .inl ⟨wanted_yes _ rfl rfl rfl g0, ?_⟩
      refine gives_eql_int (k := .i64) (8) (8) rfl ?_ ?_ ⟨Grw.refl _ _, congrArg Value.bool (by simp)⟩
      · rw [(ev h54)]
        exact s54
      · rfl
    · intro az wz hx hB hk H
      obtain ⟨v53, h53, s53⟩ := H 26 rfl _ rfl 53 rfl
      obtain ⟨v55, h55, s55⟩ := H 28 rfl _ rfl 55 rfl
      refine .inl ⟨wanted_none rfl, ?_⟩
      refine gives_pick true rfl ?_ ?_
      · rw [(ev h53)]
        exact s53
      · show Grw _ _ _ ∧ _
        rw [if_pos rfl, (ev h55)]
        exact ⟨Grw.refl _ _, s55⟩
    · intro az wz hx hB hk H
      obtain ⟨v56, h56, s56⟩ := H 29 rfl _ rfl 56 rfl
      refine .inl ⟨wanted_none rfl, ?_⟩
      refine gives_move rfl ?_
      rw [(ev h56)]
      exact ⟨Grw.refl _ _, s56⟩
    · intro az wz hx hB hk H
      obtain ⟨v57, h57, s57⟩ := H 30 rfl _ rfl 57 rfl
      have g0 : az.tmps[57]? = some (.bool true) := by rw [h57]; exact congrArg some s57
      refine .inl ⟨wanted_yes _ rfl rfl rfl g0, ?_⟩
      refine gives_move rfl ?_
      rw [(ev (show az.tmps[9]? = some (.int .i64 8) from hk 9 rfl))]
      exact ⟨Grw.refl _ _, rfl⟩
    · intro az wz hx hB hk H
      obtain ⟨v57, h57, s57⟩ := H 30 rfl _ rfl 57 rfl
      obtain ⟨v58, h58, s58⟩ := H 31 rfl _ rfl 58 rfl
      have g0 : az.tmps[57]? = some (.bool true) := by rw [h57]; exact congrArg some s57
      refine .inl ⟨wanted_yes _ rfl rfl rfl g0, ?_⟩
      refine gives_eql_int (k := .i64) (8) (8) rfl ?_ ?_ ⟨Grw.refl _ _, congrArg Value.bool (by simp)⟩
      · rw [(ev h58)]
        exact s58
      · rfl
    · intro az wz hx hB hk H
      obtain ⟨v57, h57, s57⟩ := H 30 rfl _ rfl 57 rfl
      obtain ⟨v59, h59, s59⟩ := H 32 rfl _ rfl 59 rfl
      refine .inl ⟨wanted_none rfl, ?_⟩
      refine gives_pick true rfl ?_ ?_
      · rw [(ev h57)]
        exact s57
      · show Grw _ _ _ ∧ _
        rw [if_pos rfl, (ev h59)]
        exact ⟨Grw.refl _ _, s59⟩
    · intro az wz hx hB hk H
      obtain ⟨v60, h60, s60⟩ := H 33 rfl _ rfl 60 rfl
      refine .inl ⟨wanted_none rfl, ?_⟩
      refine gives_move rfl ?_
      rw [(ev h60)]
      exact ⟨Grw.refl _ _, s60⟩
    · intro az wz hx hB hk H
      obtain ⟨v61, h61, s61⟩ := H 34 rfl _ rfl 61 rfl
      have g0 : az.tmps[61]? = some (.bool true) := by rw [h61]; exact congrArg some s61
      refine .inl ⟨wanted_yes _ rfl rfl rfl g0, ?_⟩
      refine gives_move rfl ?_
      rw [(ev (show az.tmps[7]? = some (.int .i64 0) from hk 7 rfl))]
      exact ⟨Grw.refl _ _, rfl⟩
    · intro az wz hx hB hk H
      obtain ⟨v61, h61, s61⟩ := H 34 rfl _ rfl 61 rfl
      obtain ⟨v62, h62, s62⟩ := H 35 rfl _ rfl 62 rfl
      have g0 : az.tmps[61]? = some (.bool true) := by rw [h61]; exact congrArg some s61
      refine .inl ⟨wanted_yes _ rfl rfl rfl g0, ?_⟩
      refine gives_eql_int (k := .i64) (0) (0) rfl ?_ ?_ ⟨Grw.refl _ _, congrArg Value.bool (by simp)⟩
      · rw [(ev h62)]
        exact s62
      · rfl
    · intro az wz hx hB hk H
      obtain ⟨v61, h61, s61⟩ := H 34 rfl _ rfl 61 rfl
      obtain ⟨v63, h63, s63⟩ := H 36 rfl _ rfl 63 rfl
      refine .inl ⟨wanted_none rfl, ?_⟩
      refine gives_pick true rfl ?_ ?_
      · rw [(ev h61)]
        exact s61
      · show Grw _ _ _ ∧ _
        rw [if_pos rfl, (ev h63)]
        exact ⟨Grw.refl _ _, s63⟩
    · intro az wz hx hB hk H
      obtain ⟨v64, h64, s64⟩ := H 37 rfl _ rfl 64 rfl
      refine .inl ⟨wanted_none rfl, ?_⟩
      refine gives_move rfl ?_
      rw [(ev h64)]
      exact ⟨Grw.refl _ _, s64⟩
    · intro az wz hx hB hk H
      obtain ⟨v65, h65, s65⟩ := H 38 rfl _ rfl 65 rfl
      have g0 : az.tmps[65]? = some (.bool true) := by rw [h65]; exact congrArg some s65
      refine .inl ⟨wanted_yes _ rfl rfl rfl g0, ?_⟩
      refine gives_move rfl ?_
      rw [(ev (show az.tmps[10]? = some (.int .i64 0) from hk 10 rfl))]
      exact ⟨Grw.refl _ _, rfl⟩
    · intro az wz hx hB hk H
      obtain ⟨v65, h65, s65⟩ := H 38 rfl _ rfl 65 rfl
      obtain ⟨v66, h66, s66⟩ := H 39 rfl _ rfl 66 rfl
      have g0 : az.tmps[65]? = some (.bool true) := by rw [h65]; exact congrArg some s65
      refine .inl ⟨wanted_yes _ rfl rfl rfl g0, ?_⟩
      refine gives_eql_int (k := .i64) (0) (0) rfl ?_ ?_ ⟨Grw.refl _ _, congrArg Value.bool (by simp)⟩
      · rw [(ev h66)]
        exact s66
      · rfl
    · intro az wz hx hB hk H
      obtain ⟨v65, h65, s65⟩ := H 38 rfl _ rfl 65 rfl
      obtain ⟨v67, h67, s67⟩ := H 40 rfl _ rfl 67 rfl
      refine .inl ⟨wanted_none rfl, ?_⟩
      refine gives_pick true rfl ?_ ?_
      · rw [(ev h65)]
        exact s65
      · show Grw _ _ _ ∧ _
        rw [if_pos rfl, (ev h67)]
        exact ⟨Grw.refl _ _, s67⟩
    · intro az wz hx hB hk H
      obtain ⟨v68, h68, s68⟩ := H 41 rfl _ rfl 68 rfl
      refine .inl ⟨wanted_none rfl, ?_⟩
      refine gives_assign rfl ?_
      rw [(ev h68)]
      exact ⟨Grw.refl _ _, s68⟩
  · intro az wz hx hd hs hv hsame
    obtain ⟨v, hv4, s4⟩ := hv 42 _ 4 rfl rfl
    obtain rfl : v = .bool true := s4
    refine hK _ _ ?_
    refine wp_ret ?_
    refine bodyPost_ret (results_tmp rfl _ _ _) hd ?_
    refine ⟨_, rfl, hw8.grw hx, ?_⟩
    simp [Is, hv4]
end Go.Proofs.YtakmkcfljhfkdaaDoor
