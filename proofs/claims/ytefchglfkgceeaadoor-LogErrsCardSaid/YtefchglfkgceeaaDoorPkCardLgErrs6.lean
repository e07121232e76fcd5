/-
  The walk of LogErrs.
  The walk of LogErrs where there can be a log.
  The walk of LogErrs, for every input.
-/
import Derived.Test.YtefchglfkgceeaaDoorPkCardLgErrs5
set_option linter.unusedVariables false
set_option linter.unusedSimpArgs false

namespace Go.Proofs.YtefchglfkgceeaaDoor
open Go.RowKit

theorem unsE_zero2 : unsE 1 (List.replicate 512 0) = 3 ∨ unsE 1 (List.replicate 512 0) = 15 := by
  unfold unsE
  split
  · exact .inl rfl
  · exact .inr rfl
section
variable {w0 w : World} {X : Bk} {D : Dk} {L : Lg}
/-- What the calls before leave where there can't be a log. -/
theorem none_log (n : Nat) (hn1 : 1 ≤ n) (hn2 : n ≤ 4096) (at_ count : Int) (h1 : -9223372036854775808 ≤ at_ ∧ at_ < 9223372036854775808) (h2 : -9223372036854775808 ≤ count ∧ count < 9223372036854775808) (hf : fitsE n at_ count = 1) (hT : Tab w) :
    Hid (∀ w1 w2 g gd gn, Ext w w1 → Ext w1 w2 → DiskAt w1.heap.size w2 g gd gn none 0 (D0 n) → Calls Tryd.prog 20 #[.pointer (some ⟨g, 0, none⟩), .int .i64 at_, .int .i64 count] w2 (DPost w1.heap.size g gd gn w2 none (.int .i64 1) (D0 n))) ∧
    Hid (∀ w1 w2 g gd gn A c, Ext w w1 → Ext w1 w2 → DiskAt w1.heap.size w2 g gd gn A c (D0 n) → Calls Tryd.prog 17 #[.pointer (some ⟨g, 0, none⟩), .int .i64 at_, .int .i64 count] w2 (DPost w1.heap.size g gd gn w2 A (.tuple #[.pointer none, .int .i64 1]) (D0 n))) := by
  have hl : (D0 n).dur.length = n := D0_len n
  refine ⟨hide fun w1 w2 g gd gn hx hx2 hd => ?_, hide fun w1 w2 g gd gn A c hx hx2 hd => ?_⟩
  · have k := format_any hx2 hd (D0_bd hn1 hn2) (by show (0 : Nat) < _; decide) (by show (0 : Nat) < _; decide) (hT.ext hx) at_ count h1 h2
    rw [show fmtE (D0 n) at_ count = 1 by unfold fmtE; rw [hl, hf]; rfl, show fmtD (D0 n) at_ count = D0 n by unfold fmtD; rw [hl, hf]; rfl] at k
    exact k
  · have hh : rhE (D0 n) at_ ≠ 0 := by
      unfold rhE
      split
      · rename_i h; exact h
      · rename_i h
        have hg : gE (D0 n) at_ = 0 := by simpa using h
        have hin : 0 ≤ at_ ∧ at_ < (n : Int) := by
          unfold gE at hg
          split at hg
          · cases hg
          · rw [hl] at *; omega
        obtain ⟨a, rfl⟩ : ∃ a : Nat, at_ = (a : Int) := ⟨at_.toNat, by omega⟩
        have e0 : D0 n = ⟨zS n, [], 0, 0, false⟩ := rfl
        rw [e0, gB_still (by rw [zS_len]; omega), zS_get (by omega)]
        exact unsE_zero 1 (by decide)
    have hH : rhH (D0 n) at_ = hd0 := by unfold rhH; rw [if_neg hh]
    have k := open_any hx2 hd (D0_bd hn1 hn2) (by show (0 : Nat) < _; decide) (by show (0 : Nat) < _; decide) (hT.ext hx) at_ count h1 h2 (by rw [hH]; decide) (by rw [hH]; decide)
    rw [show opE (D0 n) at_ count = 1 by unfold opE; rw [hl, hf]; rfl, show opD (D0 n) at_ count = D0 n by unfold opD; rw [hl, hf]; rfl] at k
    exact k.mono fun e w' hp => hp.2 (by decide)
set_option maxRecDepth 20000 in
set_option maxHeartbeats 3200000 in
theorem errs_a (n : Nat) (hn1 : 1 ≤ n) (hn2 : n ≤ 100) (at_ count : Int) (h1 : -9223372036854775808 ≤ at_ ∧ at_ < 9223372036854775808) (h2 : -9223372036854775808 ≤ count ∧ count < 9223372036854775808) (ha : at_ < 0) (P : Option Addr) (np cp : Nat) (hT : Tab w) :
    Calls Tryd.prog 4 #[.int .i64 (n : Int), .int .i64 at_, .int .i64 count, .slice P np cp] w (Ret w (Is (.bool true))) := by
  obtain ⟨KF, KO⟩ := none_log (w := w) n hn1 (by omega) at_ count h1 h2 (by unfold fitsE; rw [if_pos (by omega)]) hT
  have KA := hide (fun (W : World) (hW : Ext w W) => awake_any W (hT.ext hW))
  have KN := hide (fun (W : World) => new_any n hn1 (by omega) W)
  have hni1 : ¬ (n : Int) < 1 := by omega
  have hni2 : ¬ (100 : Int) < (n : Int) := by omega
  clear hn1 hn2 h1 h2 hT
  go_enter Tryd.func4, Tryd.ntmps4
  go_wp2_with (first
    | (go_at_call 7; (with_reducible refine (KA.out w (Ext.refl w)).mono ?_); rintro e w1 ⟨rfl, hx1⟩; have HX1 := hide hx1; clear hx1)
    | (go_at_call 19; (with_reducible refine (KN.out w1).mono ?_); rintro e w2 ⟨g, gd, gn, rfl, hd2, hx2⟩; have HD2 := hide hd2; have HX2 : Hid (Ext w1 w2) := hide hx2; clear hd2 hx2)
    | (go_at_call 20; (with_reducible refine (KF.out w1 w2 g gd gn HX1.out HX2.out HD2.out).mono ?_); rintro e w3 ⟨A3, c3, rfl, hd3, hf3, hn3⟩; have HD3 := hide hd3; have HX3 : Hid (Ext w1 w3) := hide (Dfr.grown HX2.out HD2.out hf3); clear hd3 hf3 hn3)
    | (go_at_call 17; (with_reducible refine (KO.out w1 w3 g gd gn A3 c3 HX1.out HX3.out HD3.out).mono ?_); rintro e w4 ⟨A4, c4, rfl, hd4, hf4, hn4⟩; have HX4 : Hid (Ext w1 w4) := hide (Dfr.grown HX3.out HD3.out hf4); clear hd4 hf4 hn4)
    | (go_at_call 23; (with_reducible refine (append_nil _ _ _ _).mono ?_); rintro e wz ⟨rfl, rfl⟩)
    | (go_at_call 24; (with_reducible refine (spend_nil _ _ _).mono ?_); rintro e wz ⟨rfl, rfl⟩)
    | (go_at_call 25; (with_reducible refine (read_nil_log _).mono ?_); rintro e wz ⟨rfl, rfl⟩)
    | (go_at_call 17; (with_reducible refine (open_nil _ _).mono ?_); rintro e wz ⟨rfl, rfl⟩)
    | (go_at_call 20; (with_reducible refine (format_nil _ _).mono ?_); rintro e wz ⟨rfl, rfl⟩)
    | (go_at_call 12; (with_reducible refine flush_nil.mono ?_); rintro e wz ⟨rfl, rfl⟩)
    | (go_at_call 14; (with_reducible refine (mark_nil _ _).mono ?_); rintro e wz ⟨rfl, rfl⟩)
    | (go_at_call 22; (with_reducible refine (release_nil _).mono ?_); rintro e wz ⟨rfl, rfl⟩)
    | (go_at_call 15; (with_reducible refine end_nil.mono ?_); rintro e wz ⟨rfl, rfl⟩)
    | (go_at_call 26; (with_reducible refine sure_nil.mono ?_); rintro e wz ⟨rfl, rfl⟩)
    | (go_at_call 27; (with_reducible refine start_nil.mono ?_); rintro e wz ⟨rfl, rfl⟩)
    | (go_at_call 28; (with_reducible refine check_nil.mono ?_); rintro e wz ⟨rfl, rfl⟩)
    | (go_at_call 29; (with_reducible refine room_nil.mono ?_); rintro e wz ⟨rfl, rfl⟩)
    | (go_at_call 30; (with_reducible refine held_nil.mono ?_); rintro e wz ⟨rfl, rfl⟩))
  go_ret
  exact Ret.mk (HX1.out.trans HX4.out) rfl
set_option maxRecDepth 20000 in
set_option maxHeartbeats 3200000 in
theorem errs_b (n : Nat) (hn1 : 1 ≤ n) (hn2 : n ≤ 100) (at_ count : Int) (h1 : -9223372036854775808 ≤ at_ ∧ at_ < 9223372036854775808) (h2 : -9223372036854775808 ≤ count ∧ count < 9223372036854775808) (ha : ¬ at_ < 0) (hb : count < 4) (P : Option Addr) (np cp : Nat) (hT : Tab w) :
    Calls Tryd.prog 4 #[.int .i64 (n : Int), .int .i64 at_, .int .i64 count, .slice P np cp] w (Ret w (Is (.bool true))) := by
  obtain ⟨KF, KO⟩ := none_log (w := w) n hn1 (by omega) at_ count h1 h2 (by unfold fitsE; rw [if_pos (by omega)]) hT
  have KA := hide (fun (W : World) (hW : Ext w W) => awake_any W (hT.ext hW))
  have KN := hide (fun (W : World) => new_any n hn1 (by omega) W)
  have hni1 : ¬ (n : Int) < 1 := by omega
  have hni2 : ¬ (100 : Int) < (n : Int) := by omega
  clear hn1 hn2 h1 h2 hT
  go_enter Tryd.func4, Tryd.ntmps4
  go_wp2_with (first
    | (go_at_call 7; (with_reducible refine (KA.out w (Ext.refl w)).mono ?_); rintro e w1 ⟨rfl, hx1⟩; have HX1 := hide hx1; clear hx1)
    | (go_at_call 19; (with_reducible refine (KN.out w1).mono ?_); rintro e w2 ⟨g, gd, gn, rfl, hd2, hx2⟩; have HD2 := hide hd2; have HX2 : Hid (Ext w1 w2) := hide hx2; clear hd2 hx2)
    | (go_at_call 20; (with_reducible refine (KF.out w1 w2 g gd gn HX1.out HX2.out HD2.out).mono ?_); rintro e w3 ⟨A3, c3, rfl, hd3, hf3, hn3⟩; have HD3 := hide hd3; have HX3 : Hid (Ext w1 w3) := hide (Dfr.grown HX2.out HD2.out hf3); clear hd3 hf3 hn3)
    | (go_at_call 17; (with_reducible refine (KO.out w1 w3 g gd gn A3 c3 HX1.out HX3.out HD3.out).mono ?_); rintro e w4 ⟨A4, c4, rfl, hd4, hf4, hn4⟩; have HX4 : Hid (Ext w1 w4) := hide (Dfr.grown HX3.out HD3.out hf4); clear hd4 hf4 hn4)
    | (go_at_call 23; (with_reducible refine (append_nil _ _ _ _).mono ?_); rintro e wz ⟨rfl, rfl⟩)
    | (go_at_call 24; (with_reducible refine (spend_nil _ _ _).mono ?_); rintro e wz ⟨rfl, rfl⟩)
    | (go_at_call 25; (with_reducible refine (read_nil_log _).mono ?_); rintro e wz ⟨rfl, rfl⟩)
    | (go_at_call 17; (with_reducible refine (open_nil _ _).mono ?_); rintro e wz ⟨rfl, rfl⟩)
    | (go_at_call 20; (with_reducible refine (format_nil _ _).mono ?_); rintro e wz ⟨rfl, rfl⟩)
    | (go_at_call 12; (with_reducible refine flush_nil.mono ?_); rintro e wz ⟨rfl, rfl⟩)
    | (go_at_call 14; (with_reducible refine (mark_nil _ _).mono ?_); rintro e wz ⟨rfl, rfl⟩)
    | (go_at_call 22; (with_reducible refine (release_nil _).mono ?_); rintro e wz ⟨rfl, rfl⟩)
    | (go_at_call 15; (with_reducible refine end_nil.mono ?_); rintro e wz ⟨rfl, rfl⟩)
    | (go_at_call 26; (with_reducible refine sure_nil.mono ?_); rintro e wz ⟨rfl, rfl⟩)
    | (go_at_call 27; (with_reducible refine start_nil.mono ?_); rintro e wz ⟨rfl, rfl⟩)
    | (go_at_call 28; (with_reducible refine check_nil.mono ?_); rintro e wz ⟨rfl, rfl⟩)
    | (go_at_call 29; (with_reducible refine room_nil.mono ?_); rintro e wz ⟨rfl, rfl⟩)
    | (go_at_call 30; (with_reducible refine held_nil.mono ?_); rintro e wz ⟨rfl, rfl⟩))
  go_ret
  exact Ret.mk (HX1.out.trans HX4.out) rfl
set_option maxRecDepth 20000 in
set_option maxHeartbeats 3200000 in
theorem errs_c (n : Nat) (hn1 : 1 ≤ n) (hn2 : n ≤ 100) (at_ count : Int) (h1 : -9223372036854775808 ≤ at_ ∧ at_ < 9223372036854775808) (h2 : -9223372036854775808 ≤ count ∧ count < 9223372036854775808) (ha : ¬ at_ < 0) (hb : ¬ count < 4) (hc : 4096 < count) (P : Option Addr) (np cp : Nat) (hT : Tab w) :
    Calls Tryd.prog 4 #[.int .i64 (n : Int), .int .i64 at_, .int .i64 count, .slice P np cp] w (Ret w (Is (.bool true))) := by
  obtain ⟨KF, KO⟩ := none_log (w := w) n hn1 (by omega) at_ count h1 h2 (by unfold fitsE; rw [if_pos (by omega)]) hT
  have KA := hide (fun (W : World) (hW : Ext w W) => awake_any W (hT.ext hW))
  have KN := hide (fun (W : World) => new_any n hn1 (by omega) W)
  have hni1 : ¬ (n : Int) < 1 := by omega
  have hni2 : ¬ (100 : Int) < (n : Int) := by omega
  clear hn1 hn2 h1 h2 hT
  go_enter Tryd.func4, Tryd.ntmps4
  go_wp2_with (first
    | (go_at_call 7; (with_reducible refine (KA.out w (Ext.refl w)).mono ?_); rintro e w1 ⟨rfl, hx1⟩; have HX1 := hide hx1; clear hx1)
    | (go_at_call 19; (with_reducible refine (KN.out w1).mono ?_); rintro e w2 ⟨g, gd, gn, rfl, hd2, hx2⟩; have HD2 := hide hd2; have HX2 : Hid (Ext w1 w2) := hide hx2; clear hd2 hx2)
    | (go_at_call 20; (with_reducible refine (KF.out w1 w2 g gd gn HX1.out HX2.out HD2.out).mono ?_); rintro e w3 ⟨A3, c3, rfl, hd3, hf3, hn3⟩; have HD3 := hide hd3; have HX3 : Hid (Ext w1 w3) := hide (Dfr.grown HX2.out HD2.out hf3); clear hd3 hf3 hn3)
    | (go_at_call 17; (with_reducible refine (KO.out w1 w3 g gd gn A3 c3 HX1.out HX3.out HD3.out).mono ?_); rintro e w4 ⟨A4, c4, rfl, hd4, hf4, hn4⟩; have HX4 : Hid (Ext w1 w4) := hide (Dfr.grown HX3.out HD3.out hf4); clear hd4 hf4 hn4)
    | (go_at_call 23; (with_reducible refine (append_nil _ _ _ _).mono ?_); rintro e wz ⟨rfl, rfl⟩)
    | (go_at_call 24; (with_reducible refine (spend_nil _ _ _).mono ?_); rintro e wz ⟨rfl, rfl⟩)
    | (go_at_call 25; (with_reducible refine (read_nil_log _).mono ?_); rintro e wz ⟨rfl, rfl⟩)
    | (go_at_call 17; (with_reducible refine (open_nil _ _).mono ?_); rintro e wz ⟨rfl, rfl⟩)
    | (go_at_call 20; (with_reducible refine (format_nil _ _).mono ?_); rintro e wz ⟨rfl, rfl⟩)
    | (go_at_call 12; (with_reducible refine flush_nil.mono ?_); rintro e wz ⟨rfl, rfl⟩)
    | (go_at_call 14; (with_reducible refine (mark_nil _ _).mono ?_); rintro e wz ⟨rfl, rfl⟩)
    | (go_at_call 22; (with_reducible refine (release_nil _).mono ?_); rintro e wz ⟨rfl, rfl⟩)
    | (go_at_call 15; (with_reducible refine end_nil.mono ?_); rintro e wz ⟨rfl, rfl⟩)
    | (go_at_call 26; (with_reducible refine sure_nil.mono ?_); rintro e wz ⟨rfl, rfl⟩)
    | (go_at_call 27; (with_reducible refine start_nil.mono ?_); rintro e wz ⟨rfl, rfl⟩)
    | (go_at_call 28; (with_reducible refine check_nil.mono ?_); rintro e wz ⟨rfl, rfl⟩)
    | (go_at_call 29; (with_reducible refine room_nil.mono ?_); rintro e wz ⟨rfl, rfl⟩)
    | (go_at_call 30; (with_reducible refine held_nil.mono ?_); rintro e wz ⟨rfl, rfl⟩))
  go_ret
  exact Ret.mk (HX1.out.trans HX4.out) rfl
set_option maxRecDepth 20000 in
set_option maxHeartbeats 3200000 in
theorem errs_d (n : Nat) (hn1 : 1 ≤ n) (hn2 : n ≤ 100) (at_ count : Int) (h1 : -9223372036854775808 ≤ at_ ∧ at_ < 9223372036854775808) (h2 : -9223372036854775808 ≤ count ∧ count < 9223372036854775808) (ha : ¬ at_ < 0) (hb : ¬ count < 4) (hc : ¬ 4096 < count) (hd : (n : Int) - 1 - count < at_) (P : Option Addr) (np cp : Nat) (hT : Tab w) :
    Calls Tryd.prog 4 #[.int .i64 (n : Int), .int .i64 at_, .int .i64 count, .slice P np cp] w (Ret w (Is (.bool true))) := by
  obtain ⟨KF, KO⟩ := none_log (w := w) n hn1 (by omega) at_ count h1 h2 (by unfold fitsE; rw [if_pos (by omega)]) hT
  have KA := hide (fun (W : World) (hW : Ext w W) => awake_any W (hT.ext hW))
  have KN := hide (fun (W : World) => new_any n hn1 (by omega) W)
  have hni1 : ¬ (n : Int) < 1 := by omega
  have hni2 : ¬ (100 : Int) < (n : Int) := by omega
  have hw1 : IntKind.i64.wrap ((n : Int) - 1) = (n : Int) - 1 := by rw [IntKind.wrap_i64]; omega
  have hw2 : IntKind.i64.wrap ((n : Int) - 1 - count) = (n : Int) - 1 - count := by rw [IntKind.wrap_i64]; omega
  clear hn1 hn2 h1 h2 hT
  go_enter Tryd.func4, Tryd.ntmps4
  go_wp2_with (first
    | (go_at_call 7; (with_reducible refine (KA.out w (Ext.refl w)).mono ?_); rintro e w1 ⟨rfl, hx1⟩; have HX1 := hide hx1; clear hx1)
    | (go_at_call 19; (with_reducible refine (KN.out w1).mono ?_); rintro e w2 ⟨g, gd, gn, rfl, hd2, hx2⟩; have HD2 := hide hd2; have HX2 : Hid (Ext w1 w2) := hide hx2; clear hd2 hx2)
    | (go_at_call 20; (with_reducible refine (KF.out w1 w2 g gd gn HX1.out HX2.out HD2.out).mono ?_); rintro e w3 ⟨A3, c3, rfl, hd3, hf3, hn3⟩; have HD3 := hide hd3; have HX3 : Hid (Ext w1 w3) := hide (Dfr.grown HX2.out HD2.out hf3); clear hd3 hf3 hn3)
    | (go_at_call 17; (with_reducible refine (KO.out w1 w3 g gd gn A3 c3 HX1.out HX3.out HD3.out).mono ?_); rintro e w4 ⟨A4, c4, rfl, hd4, hf4, hn4⟩; have HX4 : Hid (Ext w1 w4) := hide (Dfr.grown HX3.out HD3.out hf4); clear hd4 hf4 hn4)
    | (go_at_call 23; (with_reducible refine (append_nil _ _ _ _).mono ?_); rintro e wz ⟨rfl, rfl⟩)
    | (go_at_call 24; (with_reducible refine (spend_nil _ _ _).mono ?_); rintro e wz ⟨rfl, rfl⟩)
    | (go_at_call 25; (with_reducible refine (read_nil_log _).mono ?_); rintro e wz ⟨rfl, rfl⟩)
    | (go_at_call 17; (with_reducible refine (open_nil _ _).mono ?_); rintro e wz ⟨rfl, rfl⟩)
    | (go_at_call 20; (with_reducible refine (format_nil _ _).mono ?_); rintro e wz ⟨rfl, rfl⟩)
    | (go_at_call 12; (with_reducible refine flush_nil.mono ?_); rintro e wz ⟨rfl, rfl⟩)
    | (go_at_call 14; (with_reducible refine (mark_nil _ _).mono ?_); rintro e wz ⟨rfl, rfl⟩)
    | (go_at_call 22; (with_reducible refine (release_nil _).mono ?_); rintro e wz ⟨rfl, rfl⟩)
    | (go_at_call 15; (with_reducible refine end_nil.mono ?_); rintro e wz ⟨rfl, rfl⟩)
    | (go_at_call 26; (with_reducible refine sure_nil.mono ?_); rintro e wz ⟨rfl, rfl⟩)
    | (go_at_call 27; (with_reducible refine start_nil.mono ?_); rintro e wz ⟨rfl, rfl⟩)
    | (go_at_call 28; (with_reducible refine check_nil.mono ?_); rintro e wz ⟨rfl, rfl⟩)
    | (go_at_call 29; (with_reducible refine room_nil.mono ?_); rintro e wz ⟨rfl, rfl⟩)
    | (go_at_call 30; (with_reducible refine held_nil.mono ?_); rintro e wz ⟨rfl, rfl⟩))
  go_ret
  exact Ret.mk (HX1.out.trans HX4.out) rfl
end
end Go.Proofs.YtefchglfkgceeaaDoor
namespace Go.Proofs.YtefchglfkgceeaaDoor
open Go.RowKit

/-- The disk with noughts on the way to the log's first sector. -/
def dk3 (n a c : Nat) : Dk := ⟨(((zS n).set a (b1S c)).set a (b2S c)).set (a + 2) bpS, [(a, List.replicate 512 0)], 6, 0, false⟩
section
variable {w0 w : World} {X : Bk} {D : Dk} {L : Lg} {n a c : Nat}
theorem dk3_len : (dk3 n a c).dur.length = n := dk2_len (n := n) (a := a) (c := c)
theorem dk3_bd (h1 : 1 ≤ n) (h2 : n ≤ 4096) (ha : a < n) : Bd (dk3 n a c) := by
  have b := dk2_bd (n := n) (a := a) (c := c) h1 h2
  refine ⟨⟨b.ok.pos, b.ok.max, b.ok.dur, fun x hx => ?_⟩, by show (1 : Nat) < _; decide, by show 6 < 1000000; decide, by show (0 : Nat) < _; decide⟩
  have hx : x ∈ [(a, List.replicate 512 (0 : UInt8))] := hx
  rw [List.mem_singleton.1 hx]
  exact ⟨by rw [dk3_len]; exact ha, List.length_replicate ..⟩
theorem dk3_write (ha : a < n) : wE (dk2 n a c) (a : Int) (List.replicate 512 0) = 0 ∧ wD (dk2 n a c) (a : Int) (List.replicate 512 0) = dk3 n a c :=
  ⟨wE_still (by have := dk2_len (n := n) (a := a) (c := c); unfold dk2 at this; rw [this]; exact ha) (List.length_replicate ..), wD_still (by have := dk2_len (n := n) (a := a) (c := c); unfold dk2 at this; rw [this]; exact ha) (List.length_replicate ..)⟩
theorem dk3_head (ha : a < n) : rhE (dk3 n a c) (a : Int) = unsE 1 (List.replicate 512 0) := by
  have hl := dk3_len (n := n) (a := a) (c := c)
  have hoff : (dk3 n a c).off = false := rfl
  have hg : gE (dk3 n a c) (a : Int) = 0 := by
    unfold gE
    rw [hl, if_neg (by omega), hoff, if_neg (by decide)]
  have hp : lastP (dk3 n a c).pen a = 1 := by
    show lastP ([] ++ [(a, List.replicate 512 (0 : UInt8))]) a = 1
    rw [lastP_snoc, if_pos rfl]
    rfl
  have hat : (dk3 n a c).at a = List.replicate 512 0 := by
    unfold Dk.at
    rw [hp, if_neg (by decide)]
    rfl
  have hb : gB (dk3 n a c) (a : Int) = List.replicate 512 0 := by
    unfold gB
    rw [hl, if_neg (by omega), hoff, if_neg (by decide), Int.toNat_natCast, hat]
  unfold rhE
  rw [hg, hb, if_neg (by decide)]
/-- What the calls leave where there can be a log. -/
theorem yes_log (h1 : 1 ≤ n) (h2 : n ≤ 4000) (h4 : 4 ≤ c) (hf : a + 1 + c ≤ n) (hT : Tab w) :
    Hid (∀ w1 w2 g gd gn, Ext w w1 → Ext w1 w2 → DiskAt w1.heap.size w2 g gd gn none 0 (D0 n) → Calls Tryd.prog 20 #[.pointer (some ⟨g, 0, none⟩), .int .i64 (a : Int), .int .i64 (c : Int)] w2 (DPost w1.heap.size g gd gn w2 none (.int .i64 0) (dk1 n a c))) ∧
    Hid (∀ w1 w2 g gd gn A cc, Ext w w1 → Ext w1 w2 → DiskAt w1.heap.size w2 g gd gn A cc (dk1 n a c) → Calls Tryd.prog 17 #[.pointer (some ⟨g, 0, none⟩), .int .i64 (a : Int), .int .i64 (c : Int)] w2 (fun e w' => ∃ X', e = .returned (.tuple #[.pointer (some ⟨X'.q, 0, none⟩), .int .i64 0]) ∧ LgAt w1 w' X' (dk2 n a c) (lgN a c) ∧ X'.g = g)) ∧
    Hid (∀ w1 w2 X B cc, Ext w w1 → LgAt w1 w2 X (dk2 n a c) (lgN a c) → Rd w2 B (List.replicate 512 0) → Calls Tryd.prog 21 #[.pointer (some ⟨X.g, 0, none⟩), .int .i64 (a : Int), .slice B 512 cc] w2 (LPost w1 w2 X (.int .i64 0) (dk3 n a c) (lgN a c))) ∧
    Hid (∀ w1 w2 X, Ext w w1 → LgAt w1 w2 X (dk3 n a c) (lgN a c) → Calls Tryd.prog 17 #[.pointer (some ⟨X.g, 0, none⟩), .int .i64 (a : Int), .int .i64 (c : Int)] w2 (LPost w1 w2 X (.tuple #[.pointer none, .int .i64 (unsE 1 (List.replicate 512 0))]) (dk3 n a c) (lgN a c))) := by
  refine ⟨hide fun w1 w2 g gd gn hx hx2 hd => ?_, hide fun w1 w2 g gd gn A cc hx hx2 hd => ?_, hide fun w1 w2 X B cc hx hl hr => ?_, hide fun w1 w2 X hx hl => ?_⟩
  · obtain ⟨e1, e2⟩ := format_new (n := n) (a := a) (c := c) h4 hf
    have k := format_any hx2 hd (D0_bd h1 (by omega)) (by show (0 : Nat) < _; decide) (by show (0 : Nat) < _; decide) (hT.ext hx) (a : Int) (c : Int) (by omega) (by omega)
    rw [e1, e2] at k
    exact k
  · obtain ⟨e1, e2, e3⟩ := open_new (n := n) (a := a) (c := c) h4 (by omega) hf
    obtain ⟨-, e5⟩ := head_new (n := n) (a := a) (c := c) (by omega) hf
    have k := open_any hx2 hd (dk1_bd h1 (by omega)) (by show (0 : Nat) < _; decide) (by show 2 < 800000; decide) (hT.ext hx) (a : Int) (c : Int) (by omega) (by omega) (by rw [e5]; show 480 < 576460752303423488; decide) (by rw [e5]; show 480 < 1152921504606846976; decide)
    rw [e1, e2, e3] at k
    exact k.mono fun e w' hp => by
      obtain ⟨X', he, hl, hg, -⟩ := hp.1 rfl
      exact ⟨X', he, hl, hg⟩
  · obtain ⟨e1, e2⟩ := dk3_write (n := n) (a := a) (c := c) (by omega)
    have k := write_uni (d := cc) hl.disk (dk2_bd h1 (by omega)) hl.ext.size (a : Int) (List.replicate 512 0) 512 (List.length_replicate ..) (by decide) hr
    rw [e1, e2] at k
    exact k.mono fun e w' hp => LPost.of_disk hl hp
  · have hh := dk3_head (n := n) (a := a) (c := c) (by omega)
    have hne : rhE (dk3 n a c) (a : Int) ≠ 0 := by rw [hh]; exact unsE_zero 1 (by decide)
    have hH : rhH (dk3 n a c) (a : Int) = hd0 := by unfold rhH; rw [if_neg hne]
    have hfe : fitsE (dk3 n a c).dur.length (a : Int) (c : Int) = 0 := by rw [dk3_len]; exact fits_yes h4 hf
    have k := open_any hl.ext hl.disk (dk3_bd h1 (by omega) (by omega)) (by show (1 : Nat) < 800000; decide) (by show 6 < 800000; decide) (hT.ext hx) (a : Int) (c : Int) (by omega) (by omega) (by rw [hH]; decide) (by rw [hH]; decide)
    rw [show opE (dk3 n a c) (a : Int) (c : Int) = unsE 1 (List.replicate 512 0) by unfold opE; rw [hfe, if_neg (by decide), if_pos hne, hh], show opD (dk3 n a c) (a : Int) (c : Int) = dk3 n a c by unfold opD; rw [hfe, if_neg (by decide), if_pos hne]] at k
    exact k.mono fun e w' hp => LPost.of_disk hl (hp.2 (unsE_zero 1 (by decide)))
set_option maxRecDepth 20000 in
set_option maxHeartbeats 3200000 in
theorem errs_yes (hn1 : 1 ≤ n) (hn2 : n ≤ 100) (h4 : 4 ≤ c) (hf : a + 1 + c ≤ n) (P : Option Addr) (np cp : Nat) (hT : Tab w) :
    Calls Tryd.prog 4 #[.int .i64 (n : Int), .int .i64 (a : Int), .int .i64 (c : Int), .slice P np cp] w (Ret w (Is (.bool true))) := by
  obtain ⟨KF, KO, KW, KO2⟩ := yes_log (w := w) (n := n) (a := a) (c := c) hn1 (by omega) h4 hf hT
  have KA := hide (fun (W : World) (hW : Ext w W) => awake_any W (hT.ext hW))
  have KN := hide (fun (W : World) => new_any n hn1 (by omega) W)
  have KM := hide make_512
  have KRL : Hid (∀ w1 W X, LgAt w1 W X (dk3 n a c) (lgN a c) → Calls Tryd.prog 22 #[.pointer (some ⟨X.q, 0, none⟩), .int .i64 1] W (Same W (.int .i64 1))) := hide (fun w1 W X hl => release_bad hl 1 (by show ((0 : Nat) : Int) < 1; decide))
  have hni1 : ¬ (n : Int) < 1 := by omega
  have hni2 : ¬ (100 : Int) < (n : Int) := by omega
  have ha : ¬ (a : Int) < 0 := by omega
  have hb : ¬ (c : Int) < 4 := by omega
  have hc : ¬ (4096 : Int) < (c : Int) := by omega
  have hw1 : IntKind.i64.wrap ((n : Int) - 1) = (n : Int) - 1 := by rw [IntKind.wrap_i64]; omega
  have hw2 : IntKind.i64.wrap ((n : Int) - 1 - (c : Int)) = (n : Int) - 1 - (c : Int) := by rw [IntKind.wrap_i64]; omega
  have hd : ¬ (n : Int) - 1 - (c : Int) < (a : Int) := by omega
  obtain ⟨z5, HZ5⟩ : ∃ z5, Hid (unsE 1 (List.replicate 512 0) = z5) := ⟨_, hide rfl⟩
  have hz5 : z5 = 3 ∨ z5 = 15 := by rw [← HZ5.out]; exact unsE_zero2
  rw [HZ5.out] at KO2
  obtain ⟨zb, HZB⟩ : ∃ zb, Hid (bs (List.replicate 512 0) = zb) := ⟨_, hide rfl⟩
  have KM2 : Hid (∀ W : World, (Instr.makeSlice 33 (.int .i64 512) (.int .i64 512)).run Tryd.prog W = .ok (.slice (some ⟨W.heap.size, 0, none⟩) 512 512) (W.alloc (.cells zb.toArray 5))) := hide (fun W => by have k := KM.out W; rw [HZB.out] at k; exact k)
  have KRD : Hid (∀ W : World, Rd (W.alloc (.cells zb.toArray 5)) (some ⟨W.heap.size, 0, none⟩) (List.replicate 512 0)) := hide (fun W => by rw [← HZB.out]; exact Rd.of_rw (Rw.new W 5 (bs (List.replicate 512 0))))
  obtain ⟨x, HX⟩ : ∃ x : Int, Hid ((a : Int) = x) := ⟨_, hide rfl⟩
  obtain ⟨y, HY⟩ : ∃ y : Int, Hid ((c : Int) = y) := ⟨_, hide rfl⟩
  rw [HX.out] at KF KO KW KO2 ha hd ⊢
  rw [HY.out] at KF KO KO2 hb hc hw2 hd ⊢
  have hnone : (decide (x < 0) || decide (y < 4) || decide (4096 < y) || decide ((n : Int) - 1 - y < x)) = false := by rw [decide_eq_false ha, decide_eq_false hb, decide_eq_false hc, decide_eq_false hd]; rfl
  clear hn1 hn2 h4 hf hT KM
  rcases hz5 with rfl | rfl
  all_goals
    go_enter Tryd.func4, Tryd.ntmps4
    go_upto_region 10 with (first
      | (go_at_call 7; (with_reducible refine (KA.out w (Ext.refl w)).mono ?_); rintro e w1 ⟨rfl, hx1⟩; have HX1 := hide hx1; clear hx1)
      | (go_at_call 19; (with_reducible refine (KN.out w1).mono ?_); rintro e w2 ⟨g, gd, gn, rfl, hd2, hx2⟩; have HD2 := hide hd2; have HX2 : Hid (Ext w1 w2) := hide hx2; clear hd2 hx2)
      | (go_at_call 20; (with_reducible refine (KF.out w1 w2 g gd gn HX1.out HX2.out HD2.out).mono ?_); rintro e w3 ⟨A3, c3, rfl, hd3, hf3, hn3⟩; have HD3 := hide hd3; have HX3 : Hid (Ext w1 w3) := hide (Dfr.grown HX2.out HD2.out hf3); clear hd3 hf3 hn3)
      | (go_at_call 17; (with_reducible refine (KO.out w1 w3 g gd gn A3 c3 HX1.out HX3.out HD3.out).mono ?_); rintro e w4 ⟨X4, rfl, hl4, hg4⟩; have HL4 := hide hl4; have HG4 := hide hg4; clear hl4 hg4))
    rw [← HG4.out]
    have hmk := KM2.out w4
    obtain ⟨w5, hw5⟩ : ∃ w5, w4.alloc (.cells zb.toArray 5) = w5 := ⟨_, rfl⟩
    have HR5 : Hid (Rd w5 (some ⟨w4.heap.size, 0, none⟩) (List.replicate 512 0)) := hide (by rw [← hw5]; exact KRD.out w4)
    have HL5 : Hid (LgAt w1 w5 X4 (dk2 n a c) (lgN a c)) := hide (by rw [← hw5]; exact HL4.out.ext_ (Ext.alloc _ _))
    rw [hw5] at hmk
    clear hw5
    go_wp2_with (first
      | (go_at_call 21; (with_reducible refine (KW.out w1 w5 X4 _ _ HX1.out HL5.out HR5.out).mono ?_); rintro e w6 ⟨X6, rfl, hl6, hf6, hn6⟩; have HL6 := hide hl6; have HG6 : Hid (X6.g = X4.g) := hide hn6.g; have HQ6 : Hid (X6.q = X4.q) := hide hn6.q; clear hl6 hf6 hn6)
      | (go_at_call 17; rw [← HG6.out]; (with_reducible refine (KO2.out w1 w6 X6 HX1.out HL6.out).mono ?_); rintro e w7 ⟨X7, rfl, hl7, hf7, hn7⟩; have HL7 := hide hl7; have HQ7 : Hid (X7.q = X4.q) := hide (hn7.q.trans HQ6.out); clear hl7 hf7 hn7)
      | (go_at_call 22; rw [← HQ7.out]; (with_reducible refine (KRL.out w1 w7 X7 HL7.out).mono ?_); rintro e wz ⟨rfl, rfl⟩)
      | (go_at_call 23; (with_reducible refine (append_nil _ _ _ _).mono ?_); rintro e wz ⟨rfl, rfl⟩)
      | (go_at_call 24; (with_reducible refine (spend_nil _ _ _).mono ?_); rintro e wz ⟨rfl, rfl⟩)
      | (go_at_call 25; (with_reducible refine (read_nil_log _).mono ?_); rintro e wz ⟨rfl, rfl⟩)
      | (go_at_call 17; (with_reducible refine (open_nil _ _).mono ?_); rintro e wz ⟨rfl, rfl⟩)
      | (go_at_call 20; (with_reducible refine (format_nil _ _).mono ?_); rintro e wz ⟨rfl, rfl⟩)
      | (go_at_call 12; (with_reducible refine flush_nil.mono ?_); rintro e wz ⟨rfl, rfl⟩)
      | (go_at_call 14; (with_reducible refine (mark_nil _ _).mono ?_); rintro e wz ⟨rfl, rfl⟩)
      | (go_at_call 22; (with_reducible refine (release_nil _).mono ?_); rintro e wz ⟨rfl, rfl⟩)
      | (go_at_call 15; (with_reducible refine end_nil.mono ?_); rintro e wz ⟨rfl, rfl⟩)
      | (go_at_call 26; (with_reducible refine sure_nil.mono ?_); rintro e wz ⟨rfl, rfl⟩)
      | (go_at_call 27; (with_reducible refine start_nil.mono ?_); rintro e wz ⟨rfl, rfl⟩)
      | (go_at_call 28; (with_reducible refine check_nil.mono ?_); rintro e wz ⟨rfl, rfl⟩)
      | (go_at_call 29; (with_reducible refine room_nil.mono ?_); rintro e wz ⟨rfl, rfl⟩)
      | (go_at_call 30; (with_reducible refine held_nil.mono ?_); rintro e wz ⟨rfl, rfl⟩))
    go_ret
    exact Ret.mk (HX1.out.trans HL7.out.ext) rfl
end
end Go.Proofs.YtefchglfkgceeaaDoor
namespace Go.Proofs.YtefchglfkgceeaaDoor
open Go.RowKit

section
variable {w : World}
set_option maxRecDepth 20000 in
set_option maxHeartbeats 1600000 in
theorem errs_out (n at_ count : Int) (hn : n < 1 ∨ 100 < n) (P : Option Addr) (np cp : Nat) (hT : Tab w) :
    Calls Tryd.prog 4 #[.int .i64 n, .int .i64 at_, .int .i64 count, .slice P np cp] w (Ret w (Is (.bool true))) := by
  have KA := hide (fun (W : World) (hW : Ext w W) => awake_any W (hT.ext hW))
  clear hT
  by_cases h1 : n < 1
  · clear hn
    go_enter Tryd.func4, Tryd.ntmps4
    go_wp2_with (first
      | (go_at_call 7; (with_reducible refine (KA.out w (Ext.refl w)).mono ?_); rintro e w1 ⟨rfl, hx1⟩; have HX1 := hide hx1; clear hx1)
      | (go_at_call 7; (with_reducible refine (KA.out w1 HX1.out).mono ?_); rintro e w2 ⟨rfl, hx2⟩; have HX2 := hide (HX1.out.trans hx2); clear hx2))
    go_ret
    exact Ret.mk HX2.out rfl
  · have h2 : 100 < n := by omega
    clear hn
    go_enter Tryd.func4, Tryd.ntmps4
    go_wp2_with (first
      | (go_at_call 7; (with_reducible refine (KA.out w (Ext.refl w)).mono ?_); rintro e w1 ⟨rfl, hx1⟩; have HX1 := hide hx1; clear hx1)
      | (go_at_call 7; (with_reducible refine (KA.out w1 HX1.out).mono ?_); rintro e w2 ⟨rfl, hx2⟩; have HX2 := hide (HX1.out.trans hx2); clear hx2))
    go_ret
    exact Ret.mk HX2.out rfl
theorem logErrs_walk (n at_ count : Int) (P : Option Addr) (np cp : Nat) (hT : Tab w) (h1 : -9223372036854775808 ≤ at_ ∧ at_ ≤ 9223372036854775807) (h2 : -9223372036854775808 ≤ count ∧ count ≤ 9223372036854775807) :
    Calls Tryd.prog 4 #[.int .i64 n, .int .i64 at_, .int .i64 count, .slice P np cp] w (Ret w (Is (.bool true))) := by
  by_cases hn : n < 1 ∨ 100 < n
  · exact errs_out n at_ count hn P np cp hT
  · obtain ⟨m, rfl⟩ : ∃ m : Nat, n = (m : Int) := ⟨n.toNat, by omega⟩
    by_cases ha : at_ < 0
    · exact errs_a m (by omega) (by omega) at_ count (by omega) (by omega) ha P np cp hT
    by_cases hb : count < 4
    · exact errs_b m (by omega) (by omega) at_ count (by omega) (by omega) ha hb P np cp hT
    by_cases hc : 4096 < count
    · exact errs_c m (by omega) (by omega) at_ count (by omega) (by omega) ha hb hc P np cp hT
    by_cases hd : (m : Int) - 1 - count < at_
    · exact errs_d m (by omega) (by omega) at_ count (by omega) (by omega) ha hb hc hd P np cp hT
    · obtain ⟨a, rfl⟩ : ∃ a : Nat, at_ = (a : Int) := ⟨at_.toNat, by omega⟩
      obtain ⟨c, rfl⟩ : ∃ c : Nat, count = (c : Int) := ⟨count.toNat, by omega⟩
      exact errs_yes (by omega) (by omega) (by omega) (by omega) P np cp hT
end
end Go.Proofs.YtefchglfkgceeaaDoor
