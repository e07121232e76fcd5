/-
  The laws of layer 3: their walks.
-/
import Derived.Test.YtmoknfcocohiiaaDoorNamA
import Derived.Test.YtmoknfcocohiiaaDoorNamG
namespace Go.Proofs.YtmoknfcocohiiaaDoor
open Go.RowKit

set_option maxRecDepth 20000 in
set_option maxHeartbeats 2000000 in
theorem folds_walk (s : ByteArray) (w : World) (hs : s.size ≤ 1048576) (hT : Tabs w) (hM : Mx w) : Calls Tryd.prog 3 #[.string s] w (Ret w (Is (.bool true))) := by
  have KA := hide (awake_any w hT hM)
  have KF := hide fun W => fold_any s W (by omega)
  have KR := hide fun W (h : Ext w W) => rfold_any s W (by omega) (hT.ext h)
  generalize foldS s.data.toList = z at *
  obtain ⟨x, p, e⟩ := z
  dsimp only [foldV] at KF KR
  clear hs hT hM
  go_enter Tryd.func3, Tryd.ntmps3
  go_wp2_with (first
    | (go_at_call 9; refine KA.out.mono ?_; rintro e w1 ⟨v1, rfl, hx1, rfl⟩)
    | (go_at_call 10; refine (KF.out _).mono ?_; rintro e w2 ⟨v2, rfl, hx2, rfl⟩; have hx3 := hx1.trans hx2)
    | (go_at_call 11; refine (KR.out _ hx3).mono ?_; rintro e w4 ⟨v4, rfl, hx4, rfl⟩; have hx5 := hx3.trans hx4))
  go_ret
  exact Ret.mk hx5 rfl

set_option maxRecDepth 20000 in
set_option maxHeartbeats 2000000 in
theorem classes_walk (s : ByteArray) (w : World) (hs : s.size ≤ 1048576) (hT : Tabs w) (hM : Mx w) : Calls Tryd.prog 5 #[.string s] w (Ret w (Is (.bool true))) := by
  have KA := hide (awake_any w hT hM)
  have KF := hide fun W (h : Ext w W) => classes_any s W (by omega) (hT.ext h)
  have KR := hide fun W (h : Ext w W) => rclasses_any s W (by omega) (hT.ext h)
  generalize classS s.data.toList = z at *
  obtain ⟨x, p, e⟩ := z
  dsimp only [classV] at KF KR
  clear hs hT hM
  cases e
  all_goals
    go_enter Tryd.func5, Tryd.ntmps5
    go_wp2_with (first
      | (go_at_call 9; refine KA.out.mono ?_; rintro e w1 ⟨v1, rfl, hx1, rfl⟩)
      | (go_at_call 12; refine (KF.out _ hx1).mono ?_; rintro e w2 ⟨v2, rfl, hx2, rfl⟩; have hx3 := hx1.trans hx2)
      | (go_at_call 13; refine (KR.out _ hx3).mono ?_; rintro e w4 ⟨v4, rfl, hx4, rfl⟩; have hx5 := hx3.trans hx4))
    go_ret
    exact Ret.mk hx5 rfl

theorem names_cat (a b : ByteArray) : (a ++ b).data.toList = a.data.toList ++ b.data.toList := by simp
set_option maxRecDepth 20000 in
set_option maxHeartbeats 2000000 in
theorem counts_walk (a b : ByteArray) (w : World) (ha : a.size ≤ 1048576) (hb : b.size ≤ 1048576) (hT : Tabs w) (hM : Mx w) : Calls Tryd.prog 7 #[.string a, .string b] w (Ret w (Is (.bool true))) := by
  have KA := hide (awake_any w hT hM)
  have K1 := hide fun W (h : Ext w W) => classes_any a W (by omega) (hT.ext h)
  have K2 := hide fun W (h : Ext w W) => classes_any b W (by omega) (hT.ext h)
  have K3 := hide fun W (h : Ext w W) => classes_any (a ++ b) W (by rw [ByteArray.size_append]; omega) (hT.ext h)
  rw [names_cat] at K3
  have l1 := classS_lt a.data.toList
  have l2 := classS_lt b.data.toList
  have HA := hide fun x n y m (h1 : classS a.data.toList = (x, n, true)) (h2 : classS b.data.toList = (y, m, true)) => class_app h1 h2
  have hn1 : (classS a.data.toList).2.1 ≤ 1048576 := by
    unfold classS
    split
    · exact Nat.le_trans (chs_le _ _) (by rw [size_len]; exact ha)
    · exact Nat.zero_le _
  have hn2 : (classS b.data.toList).2.1 ≤ 1048576 := by
    unfold classS
    split
    · exact Nat.le_trans (chs_le _ _) (by rw [size_len]; exact hb)
    · exact Nat.zero_le _
  generalize classS (a.data.toList ++ b.data.toList) = z at *
  generalize classS a.data.toList = x at *
  generalize classS b.data.toList = y at *
  obtain ⟨x1, x2, x3⟩ := x
  obtain ⟨y1, y2, y3⟩ := y
  simp only at l1 l2 hn1 hn2
  have hor : bits .or .i64 (x1 : Int) (y1 : Int) = ((x1 ||| y1 : Nat) : Int) := or5 ⟨x1, l1⟩ ⟨y1, l2⟩
  have hsum : ¬ 9223372036854775807 < a.size + b.size := by omega
  clear ha hb hT hM
  cases x3
  case false =>
    obtain ⟨z1, z2, z3⟩ := z
    dsimp only [classV] at K1 K2 K3
    go_enter Tryd.func7, Tryd.ntmps7
    go_wp2_with (first
      | (go_at_call 9; refine KA.out.mono ?_; rintro e w1 ⟨v1, rfl, hx1, rfl⟩)
      | (go_at_call 12; (with_reducible refine (K1.out _ hx1).mono ?_); rintro e w2 ⟨v2, rfl, hx2, rfl⟩; have hx3 := hx1.trans hx2; clear K1)
      | (go_at_call 12; (with_reducible refine (K2.out _ hx3).mono ?_); rintro e w4 ⟨v4, rfl, hx4, rfl⟩; have hx5 := hx3.trans hx4; clear K2)
      | (go_at_call 12; (with_reducible refine (K3.out _ hx5).mono ?_); rintro e w6 ⟨v6, rfl, hx6, rfl⟩; have hx7 := hx5.trans hx6; clear K3))
    go_ret
    exact Ret.mk hx7 rfl
  case true =>
    cases y3
    case false =>
      obtain ⟨z1, z2, z3⟩ := z
      dsimp only [classV] at K1 K2 K3
      go_enter Tryd.func7, Tryd.ntmps7
      go_wp2_with (first
        | (go_at_call 9; refine KA.out.mono ?_; rintro e w1 ⟨v1, rfl, hx1, rfl⟩)
        | (go_at_call 12; (with_reducible refine (K1.out _ hx1).mono ?_); rintro e w2 ⟨v2, rfl, hx2, rfl⟩; have hx3 := hx1.trans hx2; clear K1)
        | (go_at_call 12; (with_reducible refine (K2.out _ hx3).mono ?_); rintro e w4 ⟨v4, rfl, hx4, rfl⟩; have hx5 := hx3.trans hx4; clear K2)
        | (go_at_call 12; (with_reducible refine (K3.out _ hx5).mono ?_); rintro e w6 ⟨v6, rfl, hx6, rfl⟩; have hx7 := hx5.trans hx6; clear K3))
      go_ret
      exact Ret.mk hx7 rfl
    case true =>
      obtain rfl := HA.out _ _ _ _ rfl rfl
      dsimp only [classV] at K1 K2 K3
      have e2 : ((x2 + y2 : Nat) : Int) = (x2 : Int) + (y2 : Int) := by omega
      rw [e2] at K3
      generalize x1 ||| y1 = q at *
      clear HA e2
      go_enter Tryd.func7, Tryd.ntmps7
      go_wp2_with (first
        | (go_at_call 9; refine KA.out.mono ?_; rintro e w1 ⟨v1, rfl, hx1, rfl⟩)
        | (go_at_call 12; (with_reducible refine (K1.out _ hx1).mono ?_); rintro e w2 ⟨v2, rfl, hx2, rfl⟩; have hx3 := hx1.trans hx2; clear K1)
        | (go_at_call 12; (with_reducible refine (K2.out _ hx3).mono ?_); rintro e w4 ⟨v4, rfl, hx4, rfl⟩; have hx5 := hx3.trans hx4; clear K2)
        | (go_at_call 12; (with_reducible refine (K3.out _ hx5).mono ?_); rintro e w6 ⟨v6, rfl, hx6, rfl⟩; have hx7 := hx5.trans hx6; clear K3))
      go_ret
      exact Ret.mk hx7 rfl

set_option maxRecDepth 20000 in
set_option maxHeartbeats 2000000 in
theorem within_walk (a n b : ByteArray) (w : World) (ha : a.size ≤ 1048576) (hn : n.size ≤ 1048576) (hb : b.size ≤ 1048576) (hT : Tabs w) (hM : Mx w) :
    Calls Tryd.prog 6 #[.string a, .string n, .string b] w (Ret w (Is (.bool true))) := by
  have KA := hide (awake_any w hT hM)
  have KF := hide fun W => fold_any n W (by omega)
  obtain ⟨z, HZ⟩ : ∃ z, Hid (foldS n.data.toList = z) := ⟨_, rfl⟩
  rw [HZ.out] at KF
  obtain ⟨x, p, e⟩ := z
  dsimp only [foldV] at KF
  have hs1 : ¬ 9223372036854775807 < a.size + n.size := by omega
  have hs2 : ¬ 9223372036854775807 < a.size + n.size + b.size := by omega
  by_cases he : e = 0
  · subst he
    have hx := foldS_ok HZ.out
    have hxl : x.length ≤ 32 := by rw [hx.2.2.2, lowL_length]; exact hx.2.2.1
    have hxa : (⟨x.toArray⟩ : ByteArray).size ≤ 32 := by show x.toArray.size ≤ 32; rw [List.size_toArray]; exact hxl
    have KC := hide fun W (h : Ext w W) => (show Calls Tryd.prog 14 #[.string ⟨x.toArray⟩] W (Ret W (Chs (chs x 0))) from chars_any ⟨x.toArray⟩ W (by omega) (hT.ext h))
    have KS := hide fun W (h : Ext w W) => (show Calls Tryd.prog 15 #[.string (a ++ n ++ b), .string ⟨x.toArray⟩] W (Ret W (Is (.int .i64 ((strongS (a ++ n ++ b).data.toList x : Nat) : Int)))) from
      strong_any (a ++ n ++ b) ⟨x.toArray⟩ W (by rw [ByteArray.size_append, ByteArray.size_append]; omega) (by omega) (hT.ext h) (hM.ext h))
    rw [names_cat, names_cat] at KS
    have HW := hide fun (h : 3 ≤ (chs x 0).length) => strong_within (a := a.data.toList) (b := b.data.toList) HZ.out h
    generalize strongS (a.data.toList ++ n.data.toList ++ b.data.toList) x = R at *
    generalize chs x 0 = L at *
    obtain ⟨c, HC⟩ : ∃ c, Hid (L.length = c) := ⟨_, rfl⟩
    rw [HC.out] at HW
    by_cases h3 : c < 3
    · have h3i : (c : Int) < 3 := by omega
      clear ha hn hb hT hM hx hxl hxa h3 KS
      go_enter Tryd.func6, Tryd.ntmps6
      go_wp2_with (first
        | (go_at_call 9; refine KA.out.mono ?_; rintro e w1 ⟨v1, rfl, hx1, rfl⟩)
        | (go_at_call 10; refine (KF.out _).mono ?_; rintro e w2 ⟨v2, rfl, hx2, rfl⟩; have hx3 := hx1.trans hx2)
        | (go_at_call 14; refine (KC.out _ hx3).mono ?_; rintro e w4 ⟨v4, rfl, hx4, A, c4, rfl, hr4⟩; rw [HC.out]; have hx5 := hx3.trans hx4))
      go_ret
      exact Ret.mk hx5 rfl
    · have h3i : (3 : Int) ≤ (c : Int) := by omega
      have hR := HW.out (by omega)
      have hRi : ((R : Int) != 0) = true := by simp; omega
      clear ha hn hb hT hM hx hxl hxa h3 hR
      go_enter Tryd.func6, Tryd.ntmps6
      go_wp2_with (first
        | (go_at_call 9; refine KA.out.mono ?_; rintro e w1 ⟨v1, rfl, hx1, rfl⟩)
        | (go_at_call 10; refine (KF.out _).mono ?_; rintro e w2 ⟨v2, rfl, hx2, rfl⟩; have hx3 := hx1.trans hx2)
        | (go_at_call 14; refine (KC.out _ hx3).mono ?_; rintro e w4 ⟨v4, rfl, hx4, A, c4, rfl, hr4⟩; rw [HC.out]; have hx5 := hx3.trans hx4)
        | (go_at_call 15; refine (KS.out _ hx5).mono ?_; rintro e w6 ⟨v6, rfl, hx6, rfl⟩; have hx7 := hx5.trans hx6))
      go_ret
      exact Ret.mk hx7 rfl
  · have hei : ((e : Int) != 0) = true := by simp; omega
    clear ha hn hb hT hM he
    go_enter Tryd.func6, Tryd.ntmps6
    go_wp2_with (first
      | (go_at_call 9; refine KA.out.mono ?_; rintro e w1 ⟨v1, rfl, hx1, rfl⟩)
      | (go_at_call 10; refine (KF.out _).mono ?_; rintro e w2 ⟨v2, rfl, hx2, rfl⟩; have hx3 := hx1.trans hx2))
    go_ret
    exact Ret.mk hx3 rfl

set_option maxRecDepth 20000 in
set_option maxHeartbeats 2000000 in
theorem places_walk (s : ByteArray) (w : World) (hs : s.size ≤ 1048576) (hT : Tabs w) (hM : Mx w) : Calls Tryd.prog 8 #[.string s] w (Ret w (Is (.bool true))) := by
  have KA := hide (awake_any w hT hM)
  have KF := hide fun W => fold_any s W (by omega)
  obtain ⟨z, HZ⟩ : ∃ z, Hid (foldS s.data.toList = z) := ⟨_, rfl⟩
  rw [HZ.out] at KF
  obtain ⟨x, p, e⟩ := z
  dsimp only [foldV] at KF
  by_cases he : e = 0
  · subst he
    have hp : p = 0 := (fold_once HZ.out).2.2.2.2
    subst hp
    clear hs hT hM
    go_enter Tryd.func8, Tryd.ntmps8
    go_wp2_with (first
      | (go_at_call 9; refine KA.out.mono ?_; rintro e w1 ⟨v1, rfl, hx1, rfl⟩)
      | (go_at_call 10; refine (KF.out _).mono ?_; rintro e w2 ⟨v2, rfl, hx2, rfl⟩; have hx3 := hx1.trans hx2))
    go_ret
    exact Ret.mk hx3 rfl
  · have hei : ((e : Int) != 0) = true := by simp; omega
    have hei2 : ((e : Int) == 0) = false := i64_ne (by omega)
    by_cases hp : p = 0
    · have hpi : ((p : Int) == 0) = true := by rw [hp]; rfl
      clear hs hT hM he hp
      go_enter Tryd.func8, Tryd.ntmps8
      go_wp2_with (first
        | (go_at_call 9; refine KA.out.mono ?_; rintro e w1 ⟨v1, rfl, hx1, rfl⟩)
        | (go_at_call 10; refine (KF.out _).mono ?_; rintro e w2 ⟨v2, rfl, hx2, rfl⟩; have hx3 := hx1.trans hx2))
      go_ret
      exact Ret.mk hx3 rfl
    · have hpi : ((p : Int) == 0) = false := i64_ne (by omega)
      obtain ⟨h1, h2, h3⟩ := fold_places HZ.out he hp
      rw [size_len] at h1
      have hpl : (p : Int) < (s.size : Int) := by omega
      have hpl2 : (p : Int) ≤ (s.size : Int) := by omega
      have hp0 : (0 : Int) ≤ (p : Int) := by omega
      have hpn : p ≤ s.size := by omega
      have hel : (s.extract 0 p).data.toList = s.data.toList.take p := by rw [Lib.extract_data, List.drop_zero, Nat.sub_zero]
      have hes : (s.extract 0 p).size ≤ 1048576 := by rw [← size_len, hel, List.length_take, size_len]; omega
      have KG := hide fun W => fold_any (s.extract 0 p) W (by omega)
      rw [hel] at KG
      obtain ⟨y, HY⟩ : ∃ y, Hid (foldS (s.data.toList.take p) = y) := ⟨_, rfl⟩
      rw [HY.out] at KG h2 h3
      obtain ⟨x2, p2, e2⟩ := y
      dsimp only [foldV] at KG
      simp only at h2 h3
      by_cases he2 : e2 = 0
      · have hei3 : ((e2 : Int) == 0) = true := by rw [he2]; rfl
        have hei4 : ((e2 : Int) != 0) = false := by rw [he2]; rfl
        have hc := h3 he2
        subst he2
        have hx := foldS_ok HY.out
        have hxl : x2.length ≤ 32 := by rw [hx.2.2.2, lowL_length]; exact hx.2.2.1
        have hxa : (⟨x2.toArray⟩ : ByteArray).size ≤ 32 := by show x2.toArray.size ≤ 32; rw [List.size_toArray]; exact hxl
        have KC := hide fun W (h : Ext w W) => (show Calls Tryd.prog 14 #[.string ⟨x2.toArray⟩] W (Ret W (Chs (chs x2 0))) from chars_any ⟨x2.toArray⟩ W (by omega) (hT.ext h))
        generalize chs x2 0 = L at *
        obtain ⟨c, HC⟩ : ∃ c, Hid (L.length = c) := ⟨_, rfl⟩
        rw [HC.out] at hc
        have hci : (c : Int) ≤ 16 := by omega
        clear hs hT hM he hp h1 h2 h3 hel hes hx hxl hxa hc
        go_enter Tryd.func8, Tryd.ntmps8
        go_wp2_with (first
          | (go_at_call 9; refine KA.out.mono ?_; rintro e w1 ⟨v1, rfl, hx1, rfl⟩)
          | (go_at_call 10; (with_reducible refine (KF.out _).mono ?_); rintro e w2 ⟨v2, rfl, hx2, rfl⟩; have hx3 := hx1.trans hx2; clear KF)
          | (go_at_call 10; (with_reducible refine (KG.out _).mono ?_); rintro e w4 ⟨v4, rfl, hx4, rfl⟩; have hx5 := hx3.trans hx4; clear KG)
          | (go_at_call 14; refine (KC.out _ hx5).mono ?_; rintro e w6 ⟨v6, rfl, hx6, A, c6, rfl, hr6⟩; rw [HC.out]; have hx7 := hx5.trans hx6))
        go_ret
        exact Ret.mk hx7 rfl
      · have he22 : e2 = 2 := by omega
        have hei3 : ((e2 : Int) == 0) = false := i64_ne (by omega)
        have hei4 : ((e2 : Int) != 0) = true := by simp; omega
        have hei5 : ((e2 : Int) == 2) = true := by rw [he22]; rfl
        clear hs hT hM he hp h1 h2 h3 hel hes he2 he22
        go_enter Tryd.func8, Tryd.ntmps8
        go_wp2_with (first
          | (go_at_call 9; refine KA.out.mono ?_; rintro e w1 ⟨v1, rfl, hx1, rfl⟩)
          | (go_at_call 10; (with_reducible refine (KF.out _).mono ?_); rintro e w2 ⟨v2, rfl, hx2, rfl⟩; have hx3 := hx1.trans hx2; clear KF)
          | (go_at_call 10; (with_reducible refine (KG.out _).mono ?_); rintro e w4 ⟨v4, rfl, hx4, rfl⟩; have hx5 := hx3.trans hx4; clear KG))
        go_ret
        exact Ret.mk hx5 rfl

theorem upB_eq {x : UInt8} (h : 97 ≤ x.toNat) (h2 : x.toNat ≤ 122) : b8 ((x.toNat : Int) - 32) = upB x := by
  apply UInt8.toNat_inj.1
  rw [upB_nat]
  have := b8_toNat (n := (x.toNat : Int) - 32) (by omega) (by omega)
  unfold greatR
  rw [if_pos ⟨h, h2⟩]
  omega
set_option maxRecDepth 20000 in
set_option maxHeartbeats 4000000 in
theorem once_walk (s : ByteArray) (w : World) (hs : s.size ≤ 140737488355328) (hT : Tabs w) (hM : Mx w) : Calls Tryd.prog 4 #[.string s] w (Ret w (Is (.bool true))) := by
  have KA := hide (awake_any w hT hM)
  have KF := hide fun W => fold_any s W (by omega)
  obtain ⟨z, HZ⟩ : ∃ z, Hid (foldS s.data.toList = z) := ⟨_, rfl⟩
  rw [HZ.out] at KF
  obtain ⟨x, p, e⟩ := z
  dsimp only [foldV] at KF
  by_cases he : e = 0
  · subst he
    obtain ⟨h1, h2, h3, h4, hp⟩ := fold_once HZ.out
    subst hp
    obtain ⟨n, HN⟩ : ∃ n, Hid (x.length = n) := ⟨_, rfl⟩
    have hxa : (⟨x.toArray⟩ : ByteArray).size = n := by show x.toArray.size = n; rw [List.size_toArray]; exact HN.out
    have hul : (upL x).length = n := by rw [upL_length]; exact HN.out
    have hua : (⟨(upL x).toArray⟩ : ByteArray).size = n := by show (upL x).toArray.size = n; rw [List.size_toArray]; exact hul
    rw [HN.out] at h3 h4
    have KG := hide fun W => (show Calls Tryd.prog 10 #[.string ⟨x.toArray⟩] W (Ret W (Is (.tuple #[.string ⟨x.toArray⟩, .int .i64 0, .int .i64 0]))) from (by
      have h := fold_any ⟨x.toArray⟩ W (by omega)
      rw [show foldS (⟨x.toArray⟩ : ByteArray).data.toList = (x, 0, 0) from h1] at h
      exact h))
    have KU := hide fun W => (show Calls Tryd.prog 10 #[.string ⟨(upL x).toArray⟩] W (Ret W (Is (.tuple #[.string ⟨x.toArray⟩, .int .i64 0, .int .i64 0]))) from (by
      have h := fold_any ⟨(upL x).toArray⟩ W (by omega)
      rw [show foldS (⟨(upL x).toArray⟩ : ByteArray).data.toList = (x, 0, 0) from h2] at h
      exact h))
    obtain ⟨y, HY⟩ : ∃ y, Hid ((⟨x.toArray⟩ : ByteArray) = y) := ⟨_, rfl⟩
    have hyz : y.size = n := by rw [← HY.out]; exact hxa
    have HYL : Hid (y.data.toList = x) := by rw [← HY.out]; rfl
    rw [HY.out] at KF KG KU
    have h3i : (1 : Int) ≤ (n : Int) := by omega
    have h4i : (n : Int) ≤ 32 := by omega
    have HSZ := hide hyz
    have HUL := hide hul
    clear hs hT hM h1 h2 hxa hua hyz hul
    go_enter Tryd.func4, Tryd.ntmps4
    go_wp2_with (first
      | (go_at_call 9; refine KA.out.mono ?_; rintro e w1 ⟨v1, rfl, hx1, rfl⟩)
      | (go_at_call 10; (with_reducible refine (KF.out _).mono ?_); rintro e w2 ⟨v2, rfl, hx2, rfl⟩; have hx3 := hx1.trans hx2; clear KF)
      | (go_at_call 10; (with_reducible refine (KG.out _).mono ?_); rintro e w4 ⟨v4, rfl, hx4, rfl⟩; have hx5 := hx3.trans hx4; clear KG)
      | (refine wpList_conv rfl (.tmp 32) rfl y rfl ?_; intro c5 w5 hm hx6 hc5; rw [HYL.out] at hm; rw [HSZ.out] at hc5 ⊢; have hx7 := hx5.trans hx6))
    go_loopw [10] (fun i wr => ∃ k : Nat, k ≤ n ∧ i = .int .i64 k ∧ Mrk wr w4.heap.size ((upL x).take k ++ x.drop k) ∧ Ext w wr) (fun i _ => n - (intOf i).toNat)
    case atStart => exact ⟨0, Nat.zero_le _, rfl, hm, hx7⟩
    case round =>
      clear hm
      obtain ⟨k, hk, rfl, hb, hx⟩ := hrel
      have hge4 : w.heap.size ≤ w4.heap.size := Ext.size hx5
      by_cases hlt : k < n
      · have hlt2 : (k : Int) < (n : Int) := by omega
        have hkl : k < x.length := by rw [HN.out]; exact hlt
        obtain ⟨u, hxk⟩ : ∃ u, x[k]? = some u := ⟨_, List.getElem?_eq_getElem hkl⟩
        have hxx : (upL x)[k]? = some (upB u) := by simp [upL, hxk]
        have hx2 := u.toNat_lt
        have hcx := hb.cell (i := k) (x := u) (by rw [get_mix _ _ _ (by rw [upL_length]; exact hkl)]; exact hxk)
        have hfx := hb.frozen (i := k) (by simp [upL_length]; omega)
        have HB := hide hb
        have HX := hide hxk
        have HXX := hide hxx
        have hbig : k < ((upL x).take k ++ x.drop k).length := by simp [upL_length]; omega
        have HBIG := hide hbig
        clear hb hxk hxx hbig
        go_wp2
        · have h1 : (97 : Int) ≤ (u.toNat : Int) := by assumption
          have h2 : (u.toNat : Int) ≤ 122 := by assumption
          refine ⟨⟨k + 1, by omega, by go_num, ?_, Below.set hx hge4 _⟩, by simp [intOf]; omega⟩
          have := HB.out.set HBIG.out ((u.toNat : Int) - 32) (by omega) (by omega)
          rw [upB_eq (by omega) (by omega), set_mix _ _ _ _ HXX.out hkl] at this
          exact this
        all_goals
          have hno : ¬ (97 ≤ u.toNat ∧ u.toNat ≤ 122) := by omega
          refine ⟨⟨k + 1, by omega, by go_num, ?_, hx⟩, by simp [intOf]; omega⟩
          have e : upB u = u := by unfold upB; rw [if_neg hno]
          have h3 := HXX.out
          rw [e] at h3
          rw [← keep_mix _ _ _ _ h3 HX.out]
          exact HB.out
      · obtain rfl : k = n := by omega
        have hlt2 : ¬ (k : Int) < (k : Int) := by omega
        have hr := hb.rd
        rw [List.take_of_length_le (by rw [HUL.out]; exact Nat.le_refl _), List.drop_of_length_le (by rw [HN.out]; exact Nat.le_refl _), List.append_nil] at hr
        have hby : Bytes (upL x) wr (.slice (some ⟨w4.heap.size, 0, none⟩) k c5) := ⟨_, _, by rw [HUL.out], by rw [HUL.out]; exact hc5, hr⟩
        have hszi : (y.size : Int) = (k : Int) := by rw [HSZ.out]
        have hsz1 : (1 : Int) ≤ (y.size : Int) := by omega
        have hsz2 : (y.size : Int) ≤ 32 := by omega
        clear hb hszi
        go_wp2_with (first
          | (refine wpList_str rfl (.tmp 59) rfl (upL x) hby ?_)
          | (go_at_call 10; (with_reducible refine (KU.out _).mono ?_); rintro e w8 ⟨v8, rfl, hx8, rfl⟩; have hx9 := hx.trans hx8; clear KU))
        go_ret
        exact Ret.mk hx9 rfl
  · have hei : ((e : Int) != 0) = true := by simp; omega
    have hxe : x = [] := by have := foldS_err s.data.toList; rw [HZ.out] at this; exact this he
    subst hxe
    clear hs hT hM he
    go_enter Tryd.func4, Tryd.ntmps4
    go_wp2_with (first
      | (go_at_call 9; refine KA.out.mono ?_; rintro e w1 ⟨v1, rfl, hx1, rfl⟩)
      | (go_at_call 10; refine (KF.out _).mono ?_; rintro e w2 ⟨v2, rfl, hx2, rfl⟩; have hx3 := hx1.trans hx2))
    go_ret
    exact Ret.mk hx3 rfl
end Go.Proofs.YtmoknfcocohiiaaDoor
