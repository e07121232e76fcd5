/-
  OctetStands: the walk.
-/
import Derived.Test.YtakmkcfljhfkdaaDoorOctK
import Derived.Test.YtakmkcfljhfkdaaDoorOctO
import Derived.Test.YtakmkcfljhfkdaaDoorOrdP
import Derived.Test.YtakmkcfljhfkdaaDoorGive
namespace Go.Proofs.YtakmkcfljhfkdaaDoor
open Go.RowKit

set_option maxRecDepth 20000 in
set_option maxHeartbeats 1600000 in
theorem stands_same (a b : Int) (X Y : Option Addr) (c d : Nat) (s x y : List UInt8) (w : World) (ha : -9223372036854775808 ≤ a ∧ a ≤ 9223372036854775807) (hb : -9223372036854775808 ≤ b ∧ b ≤ 9223372036854775807)
    (hX : Rd w X x) (hY : Rd w Y y) (hs : s.length ≤ 1048576) (hxl : x.length ≤ 1048576) (hyl : y.length ≤ 1048576) (ht : Tab w) :
    Calls Tryd.prog 6 #[.int .i64 a, .int .i64 b, .string ⟨s.toArray⟩, .string ⟨s.toArray⟩, .slice X x.length c, .slice Y y.length d] w (Ret w (Is (.bool true))) := by
  have HO : Hid ((decide (a < b) == Op.bytesLess (ord64 a) (ord64 b)) = true) := by
    have h := less_be64 (a + 9223372036854775808) (b + 9223372036854775808) (by omega) (by omega) (by omega) (by omega)
    show (decide (a < b) == Op.bytesLess (ord64 a) (ord64 b)) = true
    unfold ord64
    rw [h, beq_iff_eq, Bool.eq_iff_iff, decide_eq_true_iff, decide_eq_true_iff]
    omega
  have tl : ∀ l : List UInt8, l.length ≤ 1048576 → (text l).length ≤ 2 * 1048576 + 2 ∧ (⟨l.toArray⟩ : ByteArray).size ≤ 35184372088832 := fun l h => by
    have h1 := (esc_length l).2
    refine ⟨by unfold text; simp; omega, ?_⟩
    show l.toArray.size ≤ _
    simp; omega
  obtain ⟨h1, h2⟩ := tl s hs
  obtain ⟨h3, h4⟩ := tl s (by omega)
  clear tl
  have K1 := hide fun W => (show Calls Tryd.prog 22 #[.string ⟨s.toArray⟩] W (Ret W (Bytes (text s))) from text_any ⟨s.toArray⟩ W h2)
  have K2 := hide fun W => (show Calls Tryd.prog 22 #[.string ⟨s.toArray⟩] W (Ret W (Bytes (text s))) from text_any ⟨s.toArray⟩ W h4)
  clear h2 h4
  obtain ⟨p, HP⟩ : ∃ p, Hid (text s ++ x = p) := ⟨_, rfl⟩
  obtain ⟨q, HQ⟩ : ∃ q, Hid (text s ++ y = q) := ⟨_, rfl⟩
  go_enter Tryd.func6, Tryd.ntmps6
  go_wp2_with (go_at_call 11; refine (awake_any _ ht).mono ?_; rintro e w1 ⟨v, rfl, hw1, rfl⟩)
  refine (K1.out _).mono ?_
  rintro e w3 ⟨v3, rfl, hw3, A3, c3, rfl, hc3, hr3⟩
  have hw4 := hw1.trans hw3
  go_wp2_with (first
    | (at_builtin; refine wpList_cat rfl (.tmp 17) (.tmp 19) rfl w.heap.size _ _ (text s) _ _ _ rfl rfl rfl (Own.nil _ _) hr3 (Below.size hw4) (by simp; omega) ?_; intro v5 w5 hown5 hb5; rw [List.nil_append] at hown5; have hw5 : Ext w w5 := Below.trans hw4 hb5)
    | (at_builtin; refine wpList_cat rfl (.tmp 21) (.tmp 22) rfl w.heap.size _ _ x _ _ _ rfl rfl rfl hown5 (hX.ext hw5) (Below.size hw5) (by omega) ?_; intro v6 w6 hown6 hb6; have hw6 : Ext w w6 := Below.trans hw5 hb6; rw [HP.out] at hown6))
  obtain ⟨A5, c5, rfl, hc5, hr5⟩ := hown6.bytes
  clear hown6 hown5
  refine (K2.out _).mono ?_
  rintro e w7 ⟨v7, rfl, hw7, A7, c7, rfl, hc7, hr7⟩
  have hr6 := hr5.ext hw7
  have hwx := hw6.trans hw7
  go_wp2_with (first
    | (at_builtin; refine wpList_cat rfl (.tmp 24) (.tmp 26) rfl w7.heap.size _ _ (text s) _ _ _ rfl rfl rfl (Own.nil _ _) hr7 (Nat.le_refl _) (by simp; omega) ?_; intro v8 w8 hown8 hb8; rw [List.nil_append] at hown8)
    | (at_builtin; refine wpList_cat rfl (.tmp 28) (.tmp 29) rfl w7.heap.size _ _ y _ _ _ rfl rfl rfl hown8 (hY.ext (hwx.trans hb8)) hb8.size (by omega) ?_; intro v9 w9 hown9 hb9; rw [HQ.out] at hown9; have hb10 := Below.trans hb8 hb9; have hr5 := hr6.ext hb10; have hw8 : Ext w w9 := hwx.trans hb10; obtain ⟨A9, c9, rfl, hc9, hr9⟩ := hown9.bytes))
  rename_i hK
  refine wp_region_sp hw8.size [
      Sp.is (.int .i64 a),
      Sp.is (.int .i64 b),
      Sp.is (.bool (decide ((a) < (b)))),
      Sp.is (.int .i64 a),
      Sp.bytes (ord64 a),
      Sp.is (.string ⟨((ord64 a)).toArray⟩),
      Sp.is (.int .i64 b),
      Sp.bytes (ord64 b),
      Sp.is (.string ⟨((ord64 b)).toArray⟩),
      Sp.is (.bool (Op.bytesLess ((ord64 a)) ((ord64 b)))),
      Sp.is (.bool true),
      Sp.is (.bool true),
      Sp.is (.string ⟨(s).toArray⟩),
      Sp.is (.string ⟨(s).toArray⟩),
      Sp.is (.bool true),
      Sp.is (.bool true),
      Sp.is undef,
      Sp.is undef,
      Sp.is undef,
      Sp.is undef,
      Sp.is undef,
      Sp.is undef,
      Sp.is undef,
      Sp.is undef,
      Sp.is undef,
      Sp.is (Value.bool true),
      Sp.is (Value.bool true),
      Sp.is (Value.bool true)] (by kernel_rfl) (by kernel_rfl) ?_ ?_
  · refine ⟨?_, ?_, ?_, ?_, ?_, ?_, ?_, ?_, ?_, ?_, ?_, ?_, ?_, ?_, ?_, ?_, ?_, ?_, ?_, ?_, ?_, ?_, ?_, ?_, ?_, ?_, ?_, ?_, trivial⟩
    · intro az wz hx hB hk H
      refine .inl ⟨wanted_none rfl, ?_⟩
      refine gives_move rfl ?_
      rw [(ev (show az.tmps[0]? = some (.int .i64 a) from hk 0 rfl))]
      exact ⟨Grw.refl _ _, rfl⟩
    · intro az wz hx hB hk H
      refine .inl ⟨wanted_none rfl, ?_⟩
      refine gives_move rfl ?_
      rw [(ev (show az.tmps[1]? = some (.int .i64 b) from hk 1 rfl))]
      exact ⟨Grw.refl _ _, rfl⟩
    · intro az wz hx hB hk H
      obtain ⟨v31, h31, s31⟩ := H 0 rfl _ rfl 31 rfl
      obtain ⟨v32, h32, s32⟩ := H 1 rfl _ rfl 32 rfl
      refine .inl ⟨wanted_none rfl, ?_⟩
      refine gives_lss_int (k := .i64) (a) (b) rfl ?_ ?_ ⟨Grw.refl _ _, rfl⟩
      · rw [(ev h31)]
        exact s31
      · rw [(ev h32)]
        exact s32
    · intro az wz hx hB hk H
      refine .inl ⟨wanted_none rfl, ?_⟩
      refine gives_move rfl ?_
      rw [(ev (show az.tmps[0]? = some (.int .i64 a) from hk 0 rfl))]
      exact ⟨Grw.refl _ _, rfl⟩
    · intro az wz hx hB hk H
      obtain ⟨v34, h34, s34⟩ := H 3 rfl _ rfl 34 rfl
      refine .inl ⟨wanted_none rfl, ?_⟩
      refine gives_call rfl Tryd.call15 (by simp only [List.map_toArray, List.map_cons, List.map_nil, ev h34]; rw [s34]) ?_
      exact (int_any a wz (by omega) (by omega)).mono fun _ _ h => h.grw hB
    · intro az wz hx hB hk H
      obtain ⟨v35, h35, s35⟩ := H 4 rfl _ rfl 35 rfl
      refine .inl ⟨wanted_none rfl, ?_⟩
      refine gives_str ((ord64 a)) rfl Tryd.underlying27 Tryd.underlying5 Tryd.underlying9 ?_ ⟨Grw.refl _ _, rfl⟩
      rw [(ev h35)]
      exact s35
    · intro az wz hx hB hk H
      refine .inl ⟨wanted_none rfl, ?_⟩
      refine gives_move rfl ?_
      rw [(ev (show az.tmps[1]? = some (.int .i64 b) from hk 1 rfl))]
      exact ⟨Grw.refl _ _, rfl⟩
    · intro az wz hx hB hk H
      obtain ⟨v37, h37, s37⟩ := H 6 rfl _ rfl 37 rfl
      refine .inl ⟨wanted_none rfl, ?_⟩
      refine gives_call rfl Tryd.call15 (by simp only [List.map_toArray, List.map_cons, List.map_nil, ev h37]; rw [s37]) ?_
      exact (int_any b wz (by omega) (by omega)).mono fun _ _ h => h.grw hB
    · intro az wz hx hB hk H
      obtain ⟨v38, h38, s38⟩ := H 7 rfl _ rfl 38 rfl
      refine .inl ⟨wanted_none rfl, ?_⟩
      refine gives_str ((ord64 b)) rfl Tryd.underlying27 Tryd.underlying5 Tryd.underlying9 ?_ ⟨Grw.refl _ _, rfl⟩
      rw [(ev h38)]
      exact s38
    · intro az wz hx hB hk H
      obtain ⟨v36, h36, s36⟩ := H 5 rfl _ rfl 36 rfl
      obtain ⟨v39, h39, s39⟩ := H 8 rfl _ rfl 39 rfl
      refine .inl ⟨wanted_none rfl, ?_⟩
      refine gives_lss_str ((ord64 a)) ((ord64 b)) rfl ?_ ?_ ⟨Grw.refl _ _, rfl⟩
      · rw [(ev h36)]
        exact s36
      · rw [(ev h39)]
        exact s39
    · intro az wz hx hB hk H
      obtain ⟨v33, h33, s33⟩ := H 2 rfl _ rfl 33 rfl
      obtain ⟨v40, h40, s40⟩ := H 9 rfl _ rfl 40 rfl
      refine .inl ⟨wanted_none rfl, ?_⟩
      refine gives_eql_bool ((decide ((a) < (b)))) ((Op.bytesLess ((ord64 a)) ((ord64 b)))) Tryd.underlying4 rfl ?_ ?_ ⟨Grw.refl _ _, congrArg Value.bool (HO.out)⟩
      · rw [(ev h33)]
        exact s33
      · rw [(ev h40)]
        exact s40
    · intro az wz hx hB hk H
      obtain ⟨v41, h41, s41⟩ := H 10 rfl _ rfl 41 rfl
      refine .inl ⟨wanted_none rfl, ?_⟩
      refine gives_move rfl ?_
      rw [(ev h41)]
      exact ⟨Grw.refl _ _, s41⟩
    · intro az wz hx hB hk H
      obtain ⟨v42, h42, s42⟩ := H 11 rfl _ rfl 42 rfl
      have g0 : az.tmps[42]? = some (.bool true) := by rw [h42]; exact congrArg some s42
      refine .inl ⟨wanted_yes _ rfl rfl rfl g0, ?_⟩
      refine gives_move rfl ?_
      rw [(ev (show az.tmps[2]? = some (.string ⟨(s).toArray⟩) from hk 2 rfl))]
      exact ⟨Grw.refl _ _, rfl⟩
    · intro az wz hx hB hk H
      obtain ⟨v42, h42, s42⟩ := H 11 rfl _ rfl 42 rfl
      have g0 : az.tmps[42]? = some (.bool true) := by rw [h42]; exact congrArg some s42
      refine .inl ⟨wanted_yes _ rfl rfl rfl g0, ?_⟩
      refine gives_move rfl ?_
      rw [(ev (show az.tmps[3]? = some (.string ⟨(s).toArray⟩) from hk 3 rfl))]
      exact ⟨Grw.refl _ _, rfl⟩
    · intro az wz hx hB hk H
      obtain ⟨v42, h42, s42⟩ := H 11 rfl _ rfl 42 rfl
      obtain ⟨v43, h43, s43⟩ := H 12 rfl _ rfl 43 rfl
      obtain ⟨v44, h44, s44⟩ := H 13 rfl _ rfl 44 rfl
      have g0 : az.tmps[42]? = some (.bool true) := by rw [h42]; exact congrArg some s42
      refine .inl ⟨wanted_yes _ rfl rfl rfl g0, ?_⟩
      refine gives_eql_str (s) (s) rfl ?_ ?_ ⟨Grw.refl _ _, congrArg Value.bool (by simp)⟩
      · rw [(ev h43)]
        exact s43
      · rw [(ev h44)]
        exact s44
    · intro az wz hx hB hk H
      obtain ⟨v42, h42, s42⟩ := H 11 rfl _ rfl 42 rfl
      obtain ⟨v45, h45, s45⟩ := H 14 rfl _ rfl 45 rfl
      have g0 : az.tmps[42]? = some (.bool true) := by rw [h42]; exact congrArg some s42
      refine .inl ⟨wanted_yes _ rfl rfl rfl g0, ?_⟩
      refine gives_move rfl ?_
      rw [(ev h45)]
      exact ⟨Grw.refl _ _, s45⟩
    · intro az wz hx hB hk H
      obtain ⟨v46, h46, s46⟩ := H 15 rfl _ rfl 46 rfl
      obtain rfl : v46 = .bool !false := s46
      exact .inr ⟨wanted_no _ rfl rfl rfl h46, rfl⟩
    · intro az wz hx hB hk H
      obtain ⟨v46, h46, s46⟩ := H 15 rfl _ rfl 46 rfl
      obtain rfl : v46 = .bool !false := s46
      exact .inr ⟨wanted_no _ rfl rfl rfl h46, rfl⟩
    · intro az wz hx hB hk H
      obtain ⟨v46, h46, s46⟩ := H 15 rfl _ rfl 46 rfl
      obtain rfl : v46 = .bool !false := s46
      exact .inr ⟨wanted_no _ rfl rfl rfl h46, rfl⟩
    · intro az wz hx hB hk H
      obtain ⟨v46, h46, s46⟩ := H 15 rfl _ rfl 46 rfl
      obtain rfl : v46 = .bool !false := s46
      exact .inr ⟨wanted_no _ rfl rfl rfl h46, rfl⟩
    · intro az wz hx hB hk H
      obtain ⟨v46, h46, s46⟩ := H 15 rfl _ rfl 46 rfl
      obtain rfl : v46 = .bool !false := s46
      exact .inr ⟨wanted_no _ rfl rfl rfl h46, rfl⟩
    · intro az wz hx hB hk H
      obtain ⟨v46, h46, s46⟩ := H 15 rfl _ rfl 46 rfl
      obtain rfl : v46 = .bool !false := s46
      exact .inr ⟨wanted_no _ rfl rfl rfl h46, rfl⟩
    · intro az wz hx hB hk H
      obtain ⟨v46, h46, s46⟩ := H 15 rfl _ rfl 46 rfl
      obtain rfl : v46 = .bool !false := s46
      exact .inr ⟨wanted_no _ rfl rfl rfl h46, rfl⟩
    · intro az wz hx hB hk H
      obtain ⟨v46, h46, s46⟩ := H 15 rfl _ rfl 46 rfl
      obtain rfl : v46 = .bool !false := s46
      exact .inr ⟨wanted_no _ rfl rfl rfl h46, rfl⟩
    · intro az wz hx hB hk H
      obtain ⟨v46, h46, s46⟩ := H 15 rfl _ rfl 46 rfl
      obtain rfl : v46 = .bool !false := s46
      exact .inr ⟨wanted_no _ rfl rfl rfl h46, rfl⟩
    · intro az wz hx hB hk H
      obtain ⟨v42, h42, s42⟩ := H 11 rfl _ rfl 42 rfl
      obtain ⟨v46, h46, s46⟩ := H 15 rfl _ rfl 46 rfl
      have g0 : az.tmps[42]? = some (.bool true) := by rw [h42]; exact congrArg some s42
      refine .inl ⟨wanted_yes _ rfl rfl rfl g0, ?_⟩
      refine gives_pick true rfl ?_ ?_
      · rw [(ev h46)]
        exact s46
      · show Grw _ _ _ ∧ _
        exact ⟨Grw.refl _ _, rfl⟩
    · intro az wz hx hB hk H
      obtain ⟨v42, h42, s42⟩ := H 11 rfl _ rfl 42 rfl
      obtain ⟨v56, h56, s56⟩ := H 25 rfl _ rfl 56 rfl
      refine .inl ⟨wanted_none rfl, ?_⟩
      refine gives_pick true rfl ?_ ?_
      · rw [(ev h42)]
        exact s42
      · show Grw _ _ _ ∧ _
        rw [if_pos rfl, (ev h56)]
        exact ⟨Grw.refl _ _, s56⟩
    · intro az wz hx hB hk H
      obtain ⟨v57, h57, s57⟩ := H 26 rfl _ rfl 57 rfl
      refine .inl ⟨wanted_none rfl, ?_⟩
      refine gives_assign rfl ?_
      rw [(ev h57)]
      exact ⟨Grw.refl _ _, s57⟩
  · intro az wz hx hd hs hv hsame
    obtain ⟨v, hv4, s4⟩ := hv 27 _ 12 rfl rfl
    obtain rfl : v = .bool true := s4
    refine hK _ _ ?_
    refine wp_ret ?_
    refine bodyPost_ret (results_tmp rfl _ _ _) hd ?_
    refine ⟨_, rfl, hw8.grw hx, ?_⟩
    simp [Is, hv4]

set_option maxRecDepth 20000 in
set_option maxHeartbeats 1600000 in
theorem stands_other (a b : Int) (X Y : Option Addr) (c d : Nat) (s t x y : List UInt8) (w : World) (ha : -9223372036854775808 ≤ a ∧ a ≤ 9223372036854775807) (hb : -9223372036854775808 ≤ b ∧ b ≤ 9223372036854775807)
    (hX : Rd w X x) (hY : Rd w Y y) (hs : s.length ≤ 1048576) (hst : s ≠ t) (htl : t.length ≤ 1048576) (hxl : x.length ≤ 1048576) (hyl : y.length ≤ 1048576) (ht : Tab w) :
    Calls Tryd.prog 6 #[.int .i64 a, .int .i64 b, .string ⟨s.toArray⟩, .string ⟨t.toArray⟩, .slice X x.length c, .slice Y y.length d] w (Ret w (Is (.bool true))) := by
  have HO : Hid ((decide (a < b) == Op.bytesLess (ord64 a) (ord64 b)) = true) := by
    have h := less_be64 (a + 9223372036854775808) (b + 9223372036854775808) (by omega) (by omega) (by omega) (by omega)
    show (decide (a < b) == Op.bytesLess (ord64 a) (ord64 b)) = true
    unfold ord64
    rw [h, beq_iff_eq, Bool.eq_iff_iff, decide_eq_true_iff, decide_eq_true_iff]
    omega
  have HL := hide (less_text s t x y hst)
  have HN : Hid ((s == t) = false) := beq_eq_false_iff_ne.2 hst
  clear hst
  have tl : ∀ l : List UInt8, l.length ≤ 1048576 → (text l).length ≤ 2 * 1048576 + 2 ∧ (⟨l.toArray⟩ : ByteArray).size ≤ 35184372088832 := fun l h => by
    have h1 := (esc_length l).2
    refine ⟨by unfold text; simp; omega, ?_⟩
    show l.toArray.size ≤ _
    simp; omega
  obtain ⟨h1, h2⟩ := tl s hs
  obtain ⟨h3, h4⟩ := tl t (by omega)
  clear tl
  have K1 := hide fun W => (show Calls Tryd.prog 22 #[.string ⟨s.toArray⟩] W (Ret W (Bytes (text s))) from text_any ⟨s.toArray⟩ W h2)
  have K2 := hide fun W => (show Calls Tryd.prog 22 #[.string ⟨t.toArray⟩] W (Ret W (Bytes (text t))) from text_any ⟨t.toArray⟩ W h4)
  clear h2 h4
  obtain ⟨p, HP⟩ : ∃ p, Hid (text s ++ x = p) := ⟨_, rfl⟩
  obtain ⟨q, HQ⟩ : ∃ q, Hid (text t ++ y = q) := ⟨_, rfl⟩
  have HL2 : Hid ((Op.bytesLess s t == Op.bytesLess p q) = true) := by
    show _ = _
    rw [← HP.out, ← HQ.out, HL.out, beq_self_eq_true]
  have HL := HL2
  go_enter Tryd.func6, Tryd.ntmps6
  go_wp2_with (go_at_call 11; refine (awake_any _ ht).mono ?_; rintro e w1 ⟨v, rfl, hw1, rfl⟩)
  refine (K1.out _).mono ?_
  rintro e w3 ⟨v3, rfl, hw3, A3, c3, rfl, hc3, hr3⟩
  have hw4 := hw1.trans hw3
  go_wp2_with (first
    | (at_builtin; refine wpList_cat rfl (.tmp 17) (.tmp 19) rfl w.heap.size _ _ (text s) _ _ _ rfl rfl rfl (Own.nil _ _) hr3 (Below.size hw4) (by simp; omega) ?_; intro v5 w5 hown5 hb5; rw [List.nil_append] at hown5; have hw5 : Ext w w5 := Below.trans hw4 hb5)
    | (at_builtin; refine wpList_cat rfl (.tmp 21) (.tmp 22) rfl w.heap.size _ _ x _ _ _ rfl rfl rfl hown5 (hX.ext hw5) (Below.size hw5) (by omega) ?_; intro v6 w6 hown6 hb6; have hw6 : Ext w w6 := Below.trans hw5 hb6; rw [HP.out] at hown6))
  obtain ⟨A5, c5, rfl, hc5, hr5⟩ := hown6.bytes
  clear hown6 hown5
  refine (K2.out _).mono ?_
  rintro e w7 ⟨v7, rfl, hw7, A7, c7, rfl, hc7, hr7⟩
  have hr6 := hr5.ext hw7
  have hwx := hw6.trans hw7
  go_wp2_with (first
    | (at_builtin; refine wpList_cat rfl (.tmp 24) (.tmp 26) rfl w7.heap.size _ _ (text t) _ _ _ rfl rfl rfl (Own.nil _ _) hr7 (Nat.le_refl _) (by simp; omega) ?_; intro v8 w8 hown8 hb8; rw [List.nil_append] at hown8)
    | (at_builtin; refine wpList_cat rfl (.tmp 28) (.tmp 29) rfl w7.heap.size _ _ y _ _ _ rfl rfl rfl hown8 (hY.ext (hwx.trans hb8)) hb8.size (by omega) ?_; intro v9 w9 hown9 hb9; rw [HQ.out] at hown9; have hb10 := Below.trans hb8 hb9; have hr5 := hr6.ext hb10; have hw8 : Ext w w9 := hwx.trans hb10; obtain ⟨A9, c9, rfl, hc9, hr9⟩ := hown9.bytes))
  rename_i hK
  refine wp_region_sp hw8.size [
      Sp.is (.int .i64 a),
      Sp.is (.int .i64 b),
      Sp.is (.bool (decide ((a) < (b)))),
      Sp.is (.int .i64 a),
      Sp.bytes (ord64 a),
      Sp.is (.string ⟨((ord64 a)).toArray⟩),
      Sp.is (.int .i64 b),
      Sp.bytes (ord64 b),
      Sp.is (.string ⟨((ord64 b)).toArray⟩),
      Sp.is (.bool (Op.bytesLess ((ord64 a)) ((ord64 b)))),
      Sp.is (.bool true),
      Sp.is (.bool true),
      Sp.is (.string ⟨(s).toArray⟩),
      Sp.is (.string ⟨(t).toArray⟩),
      Sp.is (.bool false),
      Sp.is (.bool false),
      Sp.is (.string ⟨(s).toArray⟩),
      Sp.is (.string ⟨(t).toArray⟩),
      Sp.is (.bool (Op.bytesLess (s) (t))),
      Sp.bytes p,
      Sp.is (.string ⟨(p).toArray⟩),
      Sp.bytes q,
      Sp.is (.string ⟨(q).toArray⟩),
      Sp.is (.bool (Op.bytesLess (p) (q))),
      Sp.is (.bool true),
      Sp.is (.bool true),
      Sp.is (.bool true),
      Sp.is (.bool true)] (by kernel_rfl) (by kernel_rfl) ?_ ?_
  · refine ⟨?_, ?_, ?_, ?_, ?_, ?_, ?_, ?_, ?_, ?_, ?_, ?_, ?_, ?_, ?_, ?_, ?_, ?_, ?_, ?_, ?_, ?_, ?_, ?_, ?_, ?_, ?_, ?_, trivial⟩
    · intro az wz hx hB hk H
      refine .inl ⟨wanted_none rfl, ?_⟩
      refine gives_move rfl ?_
      rw [(ev (show az.tmps[0]? = some (.int .i64 a) from hk 0 rfl))]
      exact ⟨Grw.refl _ _, rfl⟩
    · intro az wz hx hB hk H
      refine .inl ⟨wanted_none rfl, ?_⟩
      refine gives_move rfl ?_
      rw [(ev (show az.tmps[1]? = some (.int .i64 b) from hk 1 rfl))]
      exact ⟨Grw.refl _ _, rfl⟩
    · intro az wz hx hB hk H
      obtain ⟨v31, h31, s31⟩ := H 0 rfl _ rfl 31 rfl
      obtain ⟨v32, h32, s32⟩ := H 1 rfl _ rfl 32 rfl
      refine .inl ⟨wanted_none rfl, ?_⟩
      refine gives_lss_int (k := .i64) (a) (b) rfl ?_ ?_ ⟨Grw.refl _ _, rfl⟩
      · rw [(ev h31)]
        exact s31
      · rw [(ev h32)]
        exact s32
    · intro az wz hx hB hk H
      refine .inl ⟨wanted_none rfl, ?_⟩
      refine gives_move rfl ?_
      rw [(ev (show az.tmps[0]? = some (.int .i64 a) from hk 0 rfl))]
      exact ⟨Grw.refl _ _, rfl⟩
    · intro az wz hx hB hk H
      obtain ⟨v34, h34, s34⟩ := H 3 rfl _ rfl 34 rfl
      refine .inl ⟨wanted_none rfl, ?_⟩
      refine gives_call rfl Tryd.call15 (by simp only [List.map_toArray, List.map_cons, List.map_nil, ev h34]; rw [s34]) ?_
      exact (int_any a wz (by omega) (by omega)).mono fun _ _ h => h.grw hB
    · intro az wz hx hB hk H
      obtain ⟨v35, h35, s35⟩ := H 4 rfl _ rfl 35 rfl
      refine .inl ⟨wanted_none rfl, ?_⟩
      refine gives_str ((ord64 a)) rfl Tryd.underlying27 Tryd.underlying5 Tryd.underlying9 ?_ ⟨Grw.refl _ _, rfl⟩
      rw [(ev h35)]
      exact s35
    · intro az wz hx hB hk H
      refine .inl ⟨wanted_none rfl, ?_⟩
      refine gives_move rfl ?_
      rw [(ev (show az.tmps[1]? = some (.int .i64 b) from hk 1 rfl))]
      exact ⟨Grw.refl _ _, rfl⟩
    · intro az wz hx hB hk H
      obtain ⟨v37, h37, s37⟩ := H 6 rfl _ rfl 37 rfl
      refine .inl ⟨wanted_none rfl, ?_⟩
      refine gives_call rfl Tryd.call15 (by simp only [List.map_toArray, List.map_cons, List.map_nil, ev h37]; rw [s37]) ?_
      exact (int_any b wz (by omega) (by omega)).mono fun _ _ h => h.grw hB
    · intro az wz hx hB hk H
      obtain ⟨v38, h38, s38⟩ := H 7 rfl _ rfl 38 rfl
      refine .inl ⟨wanted_none rfl, ?_⟩
      refine gives_str ((ord64 b)) rfl Tryd.underlying27 Tryd.underlying5 Tryd.underlying9 ?_ ⟨Grw.refl _ _, rfl⟩
      rw [(ev h38)]
      exact s38
    · intro az wz hx hB hk H
      obtain ⟨v36, h36, s36⟩ := H 5 rfl _ rfl 36 rfl
      obtain ⟨v39, h39, s39⟩ := H 8 rfl _ rfl 39 rfl
      refine .inl ⟨wanted_none rfl, ?_⟩
      refine gives_lss_str ((ord64 a)) ((ord64 b)) rfl ?_ ?_ ⟨Grw.refl _ _, rfl⟩
      · rw [(ev h36)]
        exact s36
      · rw [(ev h39)]
        exact s39
    · intro az wz hx hB hk H
      obtain ⟨v33, h33, s33⟩ := H 2 rfl _ rfl 33 rfl
      obtain ⟨v40, h40, s40⟩ := H 9 rfl _ rfl 40 rfl
      refine .inl ⟨wanted_none rfl, ?_⟩
      refine gives_eql_bool ((decide ((a) < (b)))) ((Op.bytesLess ((ord64 a)) ((ord64 b)))) Tryd.underlying4 rfl ?_ ?_ ⟨Grw.refl _ _, congrArg Value.bool (HO.out)⟩
      · rw [(ev h33)]
        exact s33
      · rw [(ev h40)]
        exact s40
    · intro az wz hx hB hk H
      obtain ⟨v41, h41, s41⟩ := H 10 rfl _ rfl 41 rfl
      refine .inl ⟨wanted_none rfl, ?_⟩
      refine gives_move rfl ?_
      rw [(ev h41)]
      exact ⟨Grw.refl _ _, s41⟩
    · intro az wz hx hB hk H
      obtain ⟨v42, h42, s42⟩ := H 11 rfl _ rfl 42 rfl
      have g0 : az.tmps[42]? = some (.bool true) := by rw [h42]; exact congrArg some s42
      refine .inl ⟨wanted_yes _ rfl rfl rfl g0, ?_⟩
      refine gives_move rfl ?_
      rw [(ev (show az.tmps[2]? = some (.string ⟨(s).toArray⟩) from hk 2 rfl))]
      exact ⟨Grw.refl _ _, rfl⟩
    · intro az wz hx hB hk H
      obtain ⟨v42, h42, s42⟩ := H 11 rfl _ rfl 42 rfl
      have g0 : az.tmps[42]? = some (.bool true) := by rw [h42]; exact congrArg some s42
      refine .inl ⟨wanted_yes _ rfl rfl rfl g0, ?_⟩
      refine gives_move rfl ?_
      rw [(ev (show az.tmps[3]? = some (.string ⟨(t).toArray⟩) from hk 3 rfl))]
      exact ⟨Grw.refl _ _, rfl⟩
    · intro az wz hx hB hk H
      obtain ⟨v42, h42, s42⟩ := H 11 rfl _ rfl 42 rfl
      obtain ⟨v43, h43, s43⟩ := H 12 rfl _ rfl 43 rfl
      obtain ⟨v44, h44, s44⟩ := H 13 rfl _ rfl 44 rfl
      have g0 : az.tmps[42]? = some (.bool true) := by rw [h42]; exact congrArg some s42
      refine .inl ⟨wanted_yes _ rfl rfl rfl g0, ?_⟩
      refine gives_eql_str (s) (t) rfl ?_ ?_ ⟨Grw.refl _ _, congrArg Value.bool (HN.out)⟩
      · rw [(ev h43)]
        exact s43
      · rw [(ev h44)]
        exact s44
    · intro az wz hx hB hk H
      obtain ⟨v42, h42, s42⟩ := H 11 rfl _ rfl 42 rfl
      obtain ⟨v45, h45, s45⟩ := H 14 rfl _ rfl 45 rfl
      have g0 : az.tmps[42]? = some (.bool true) := by rw [h42]; exact congrArg some s42
      refine .inl ⟨wanted_yes _ rfl rfl rfl g0, ?_⟩
      refine gives_move rfl ?_
      rw [(ev h45)]
      exact ⟨Grw.refl _ _, s45⟩
    · intro az wz hx hB hk H
      obtain ⟨v46, h46, s46⟩ := H 15 rfl _ rfl 46 rfl
      have g0 : az.tmps[46]? = some (.bool false) := by rw [h46]; exact congrArg some s46
      refine .inl ⟨wanted_yes _ rfl rfl rfl g0, ?_⟩
      refine gives_move rfl ?_
      rw [(ev (show az.tmps[2]? = some (.string ⟨(s).toArray⟩) from hk 2 rfl))]
      exact ⟨Grw.refl _ _, rfl⟩
    · intro az wz hx hB hk H
      obtain ⟨v46, h46, s46⟩ := H 15 rfl _ rfl 46 rfl
      have g0 : az.tmps[46]? = some (.bool false) := by rw [h46]; exact congrArg some s46
      refine .inl ⟨wanted_yes _ rfl rfl rfl g0, ?_⟩
      refine gives_move rfl ?_
      rw [(ev (show az.tmps[3]? = some (.string ⟨(t).toArray⟩) from hk 3 rfl))]
      exact ⟨Grw.refl _ _, rfl⟩
    · intro az wz hx hB hk H
      obtain ⟨v46, h46, s46⟩ := H 15 rfl _ rfl 46 rfl
      obtain ⟨v47, h47, s47⟩ := H 16 rfl _ rfl 47 rfl
      obtain ⟨v48, h48, s48⟩ := H 17 rfl _ rfl 48 rfl
      have g0 : az.tmps[46]? = some (.bool false) := by rw [h46]; exact congrArg some s46
      refine .inl ⟨wanted_yes _ rfl rfl rfl g0, ?_⟩
      refine gives_lss_str (s) (t) rfl ?_ ?_ ⟨Grw.refl _ _, rfl⟩
      · rw [(ev h47)]
        exact s47
      · rw [(ev h48)]
        exact s48
    · intro az wz hx hB hk H
      obtain ⟨v46, h46, s46⟩ := H 15 rfl _ rfl 46 rfl
      have g0 : az.tmps[46]? = some (.bool false) := by rw [h46]; exact congrArg some s46
      refine .inl ⟨wanted_yes _ rfl rfl rfl g0, ?_⟩
      refine gives_move rfl ?_
      rw [(ev (show az.tmps[13]? = some (.slice A5 p.length c5) from hk 13 rfl))]
      exact ⟨Grw.refl _ _, ⟨A5, c5, rfl, hc5, hr5.keep hx.keeps⟩⟩
    · intro az wz hx hB hk H
      obtain ⟨v46, h46, s46⟩ := H 15 rfl _ rfl 46 rfl
      obtain ⟨v50, h50, s50⟩ := H 19 rfl _ rfl 50 rfl
      have g0 : az.tmps[46]? = some (.bool false) := by rw [h46]; exact congrArg some s46
      refine .inl ⟨wanted_yes _ rfl rfl rfl g0, ?_⟩
      refine gives_str (p) rfl Tryd.underlying27 Tryd.underlying5 Tryd.underlying9 ?_ ⟨Grw.refl _ _, rfl⟩
      rw [(ev h50)]
      exact s50
    · intro az wz hx hB hk H
      obtain ⟨v46, h46, s46⟩ := H 15 rfl _ rfl 46 rfl
      have g0 : az.tmps[46]? = some (.bool false) := by rw [h46]; exact congrArg some s46
      refine .inl ⟨wanted_yes _ rfl rfl rfl g0, ?_⟩
      refine gives_move rfl ?_
      rw [(ev (show az.tmps[14]? = some (.slice A9 q.length c9) from hk 14 rfl))]
      exact ⟨Grw.refl _ _, ⟨A9, c9, rfl, hc9, hr9.keep hx.keeps⟩⟩
    · intro az wz hx hB hk H
      obtain ⟨v46, h46, s46⟩ := H 15 rfl _ rfl 46 rfl
      obtain ⟨v52, h52, s52⟩ := H 21 rfl _ rfl 52 rfl
      have g0 : az.tmps[46]? = some (.bool false) := by rw [h46]; exact congrArg some s46
      refine .inl ⟨wanted_yes _ rfl rfl rfl g0, ?_⟩
      refine gives_str (q) rfl Tryd.underlying27 Tryd.underlying5 Tryd.underlying9 ?_ ⟨Grw.refl _ _, rfl⟩
      rw [(ev h52)]
      exact s52
    · intro az wz hx hB hk H
      obtain ⟨v46, h46, s46⟩ := H 15 rfl _ rfl 46 rfl
      obtain ⟨v51, h51, s51⟩ := H 20 rfl _ rfl 51 rfl
      obtain ⟨v53, h53, s53⟩ := H 22 rfl _ rfl 53 rfl
      have g0 : az.tmps[46]? = some (.bool false) := by rw [h46]; exact congrArg some s46
      refine .inl ⟨wanted_yes _ rfl rfl rfl g0, ?_⟩
      refine gives_lss_str (p) (q) rfl ?_ ?_ ⟨Grw.refl _ _, rfl⟩
      · rw [(ev h51)]
        exact s51
      · rw [(ev h53)]
        exact s53
    · intro az wz hx hB hk H
      obtain ⟨v46, h46, s46⟩ := H 15 rfl _ rfl 46 rfl
      obtain ⟨v49, h49, s49⟩ := H 18 rfl _ rfl 49 rfl
      obtain ⟨v54, h54, s54⟩ := H 23 rfl _ rfl 54 rfl
      have g0 : az.tmps[46]? = some (.bool false) := by rw [h46]; exact congrArg some s46
      refine .inl ⟨wanted_yes _ rfl rfl rfl g0, ?_⟩
      refine gives_eql_bool ((Op.bytesLess (s) (t))) ((Op.bytesLess (p) (q))) Tryd.underlying4 rfl ?_ ?_ ⟨Grw.refl _ _, congrArg Value.bool (HL.out)⟩
      · rw [(ev h49)]
        exact s49
      · rw [(ev h54)]
        exact s54
    · intro az wz hx hB hk H
      obtain ⟨v42, h42, s42⟩ := H 11 rfl _ rfl 42 rfl
      obtain ⟨v46, h46, s46⟩ := H 15 rfl _ rfl 46 rfl
      obtain ⟨v55, h55, s55⟩ := H 24 rfl _ rfl 55 rfl
      have g0 : az.tmps[42]? = some (.bool true) := by rw [h42]; exact congrArg some s42
      refine .inl ⟨wanted_yes _ rfl rfl rfl g0, ?_⟩
      refine gives_pick false rfl ?_ ?_
      · rw [(ev h46)]
        exact s46
      · show Grw _ _ _ ∧ _
        rw [if_neg (by decide), (ev h55)]
        exact ⟨Grw.refl _ _, s55⟩
    · intro az wz hx hB hk H
      obtain ⟨v42, h42, s42⟩ := H 11 rfl _ rfl 42 rfl
      obtain ⟨v56, h56, s56⟩ := H 25 rfl _ rfl 56 rfl
      refine .inl ⟨wanted_none rfl, ?_⟩
      refine gives_pick true rfl ?_ ?_
      · rw [(ev h42)]
        exact s42
      · show Grw _ _ _ ∧ _
        rw [if_pos rfl, (ev h56)]
        exact ⟨Grw.refl _ _, s56⟩
    · intro az wz hx hB hk H
      obtain ⟨v57, h57, s57⟩ := H 26 rfl _ rfl 57 rfl
      refine .inl ⟨wanted_none rfl, ?_⟩
      refine gives_assign rfl ?_
      rw [(ev h57)]
      exact ⟨Grw.refl _ _, s57⟩
  · intro az wz hx hd hs hv hsame
    obtain ⟨v, hv4, s4⟩ := hv 27 _ 12 rfl rfl
    obtain rfl : v = .bool true := s4
    refine hK _ _ ?_
    refine wp_ret ?_
    refine bodyPost_ret (results_tmp rfl _ _ _) hd ?_
    refine ⟨_, rfl, hw8.grw hx, ?_⟩
    simp [Is, hv4]
end Go.Proofs.YtakmkcfljhfkdaaDoor
