/-
  PoolErrs' walk, case 4.
  PoolErrs' walk, case 5.
  PoolErrs' walk, case 6.
  PoolErrs' walk, in all cases.
  PoolErrs: for every five numbers and every bytes, of any size that the form reaches, the law answers true and leaves the bytes as they were; octet.halfBytes holds what the program's text lays.
  The dirty pages, rising: Dirty, but for the sorting's own contract, which is handed in.
-/
import Derived.Laws.AppendOwn
import Derived.Test.YtnkcneccolbbdaaGreatDoorPkPlAl0
import Derived.Test.YtnkcneccolbbdaaGreatDoorPkPlAl6
import Derived.Test.YtnkcneccolbbdaaGreatDoorPkPlAl8
set_option linter.unusedVariables false
set_option linter.unusedSimpArgs false

namespace Go.Proofs.YtnkcneccolbbdaaGreatDoor
open Go.RowKit

section
variable {w : World}
set_option maxRecDepth 20000 in
set_option maxHeartbeats 12800000 in
theorem errs_4 (at_ pg fr ix off : Int) (A : Option Addr) (l : List UInt8) (n cc : Nat) (hT : Tab w) (hrd : Rd w A l) (hln : l.length = n) (hn : n ≤ 140737488355328) (hpg : pg < 9223372036854775808) (hpg0 : -9223372036854775808 ≤ pg) (ho1 : -9223372036854775808 ≤ off) (ho2 : off < 9223372036854775808) (hr : 0 ≤ at_ ∧ 1 ≤ pg ∧ pg ≤ 4096 ∧ 44 - pg < at_) :
    Calls Tryz.prog 4 #[.int .i64 at_, .int .i64 pg, .int .i64 fr, .int .i64 ix, .int .i64 off, .slice A n cc] w (Ret w (Is (.bool true))) := by
  have KA := hide (pawake_any w hT)
  have HT := hide hT
  have HRD := hide hrd
  have HLN := hide hln
  have HN := hide hn
  have HR := hide hr
  have HPG := hide hpg
  have HOFF := hide (And.intro ho1 ho2)
  have KF : Hid (∀ W, Ext w W → Calls Tryz.prog 6 #[.int .i64 3, .int .i64 2] W (fun e w' => ∃ b g q p, e = .returned (.pointer (some ⟨b, 0, none⟩)) ∧ Hid (W.heap.size ≤ b) ∧ Hid (Wd W w' b g q p (fS 3 2)))) := hide (fun W hW => wd_fresh (n := 3) (f := 2) (by decide) (by decide) ⟨by decide, by decide⟩ (HT.out.ext hW))
  have hft : (fS 3 2).Fit 10 := fresh_fit (by decide) (by decide) ⟨by decide, by decide⟩
  have HFT := hide hft
  have hp1 := page_new (S := fS 3 2) (i := 1) ⟨rfl, rfl⟩ hft (by decide) rfl (by decide)
  have HDL : Hid ((fS 3 2).D.dur.length = 44) := hide dk2_len
  obtain ⟨s1, HS1⟩ : ∃ s1, Hid (({ fS 3 2 with P := askP (bringP (fS 3 2).P 1 ((fS 3 2).D.at ((fS 3 2).P.at_ + 1))) 1 (frameB ((fS 3 2).D.at ((fS 3 2).P.at_ + 1))) } : St) = s1) := ⟨_, hide rfl⟩
  rw [HS1.out] at hp1
  rw [show ((1 : Nat) : Int) = 1 from rfl] at hp1
  have HP1 := hide hp1
  clear HS1
  obtain ⟨s0, HS0⟩ : ∃ s0, Hid (fS 3 2 = s0) := ⟨_, hide rfl⟩
  rw [HS0.out] at KF HFT HDL HP1
  obtain ⟨xi, HXI⟩ : ∃ xi : Int, Hid (44 - pg = xi) := ⟨_, hide rfl⟩
  obtain ⟨yi, HYI⟩ : ∃ yi : Int, Hid (504 - off = yi) := ⟨_, hide rfl⟩
  clear hT hrd hln hn hr hpg ho1 ho2 hft hp1 HS0
  go_enter Tryz.func4, Tryz.ntmps4
  go_upto_region 6 with (first
    | (go_at_call 5; (with_reducible refine KA.out.mono ?_); rintro e w1 ⟨rfl, hx1⟩; have HX1 := hide hx1; clear hx1)
    | (go_at_call 6; (with_reducible refine (KF.out w1 HX1.out).mono ?_); rintro e w2 ⟨b, g, q, p, rfl, HB, HW2⟩))
  clear KA KF
  have HT1 : Hid (Tab w1) := hide (HT.out.ext HX1.out)
  have HRD1 : Hid (Rd w1 A l) := hide (HRD.out.ext HX1.out)
  have d0 := HW2.out.c0
  have d1 := HW2.out.c1
  have KN : Hid (∀ W, Ext w2 W → Calls Tryz.prog 14 #[.pointer (some ⟨g, 0, none⟩), .pointer (some ⟨q, 0, none⟩), .int .i64 at_, .int .i64 pg, .int .i64 fr] W (fun e w' => e = .returned (.tuple #[.pointer none, .int .i64 1]) ∧ Ext W w')) := hide (fun W hW => by
    refine (wd_new_arg (HW2.out.ext_ hW) (by rw [HDL.out]; decide) at_ pg fr HPG.out (by rw [HDL.out]; have := HR.out; omega)).mono fun e w' hh => ?_
    obtain ⟨he, hw⟩ := hh
    subst hw
    exact ⟨he, Ext.refl _⟩)
  go_region_law (go_simp; go_at_call 14; (with_reducible refine (KN.out _ (Ext.drew _)).mono ?_); rintro e w3 ⟨rfl, hx3⟩; have HX3 : Hid (Ext w2 w3) := hide ((Ext.drew _).trans hx3); clear hx3)
  all_goals
    have HW3 : Hid (Wd w1 w3 b g q p s0) := hide (HW2.out.ext_ HX3.out)
    clear d0 d1 KN
    have d0 := HW3.out.c0
    have d1 := HW3.out.c1
    have d2 := HW3.out.c2
    have hr := HR.out
    have r1 : 0 ≤ at_ := hr.1
    have r2 : 1 ≤ pg := hr.2.1
    have r3 : pg ≤ 4096 := hr.2.2.1
    have r4 : ¬ at_ ≤ xi := by have := hr.2.2.2; have := HXI.out; omega
    have hxw : IntKind.i64.wrap (44 - pg) = xi := by rw [IntKind.wrap_i64]; have := HXI.out; omega
    clear hr
    go_upto_region 12 with (first
      | (go_at_call 14; (with_reducible refine (pnew_nil1 _ _ _ _).mono ?_); rintro e wz ⟨rfl, hz⟩; subst hz)
      | (go_at_call 14; (with_reducible refine (pnew_nil2 _ _ _ _).mono ?_); rintro e wz ⟨rfl, hz⟩; subst hz))
    clear d0 d1 hxw r1 r2 r3 r4
    by_cases o1 : off < 0
    · have KB := hide (fun (W : World) => wd_write_arg (w := W) (p := p) 1 off A n cc HN.out 480 (.inl o1))
      go_wp2_with (first
          | (go_at_call 15; (with_reducible refine (KB.out w3).mono ?_); rintro e wz ⟨rfl, hz⟩; subst hz)
          | (go_at_call 16; (with_reducible refine (pread_nil _).mono ?_); rintro e wz ⟨rfl, hz⟩; subst hz)
          | (go_at_call 15; (with_reducible refine (pwrite_nil _ _ _ _ _ _).mono ?_); rintro e wz ⟨rfl, hz⟩; subst hz)
          | (go_at_call 17; (with_reducible refine (ppin_nil _).mono ?_); rintro e wz ⟨rfl, hz⟩; subst hz)
          | (go_at_call 18; (with_reducible refine (punpin_nil _).mono ?_); rintro e wz ⟨rfl, hz⟩; subst hz)
          | (go_at_call 11; (with_reducible refine pflush_nil.mono ?_); rintro e wz ⟨rfl, hz⟩; subst hz)
          | (go_at_call 12; (with_reducible refine pdirty_nil.mono ?_); rintro e wz ⟨rfl, hz⟩; subst hz)
          | (go_at_call 9; (with_reducible refine plen_nil.mono ?_); rintro e wz ⟨rfl, hz⟩; subst hz))
      go_ret
      exact Ret.mk (HX1.out.trans HW3.out.ext) rfl
    · by_cases o2 : 504 < off
      · have KB := hide (fun (W : World) => wd_write_arg (w := W) (p := p) 1 off A n cc HN.out 480 (.inr (by omega)))
        go_wp2_with (first
            | (go_at_call 15; (with_reducible refine (KB.out w3).mono ?_); rintro e wz ⟨rfl, hz⟩; subst hz)
            | (go_at_call 16; (with_reducible refine (pread_nil _).mono ?_); rintro e wz ⟨rfl, hz⟩; subst hz)
            | (go_at_call 15; (with_reducible refine (pwrite_nil _ _ _ _ _ _).mono ?_); rintro e wz ⟨rfl, hz⟩; subst hz)
            | (go_at_call 17; (with_reducible refine (ppin_nil _).mono ?_); rintro e wz ⟨rfl, hz⟩; subst hz)
            | (go_at_call 18; (with_reducible refine (punpin_nil _).mono ?_); rintro e wz ⟨rfl, hz⟩; subst hz)
            | (go_at_call 11; (with_reducible refine pflush_nil.mono ?_); rintro e wz ⟨rfl, hz⟩; subst hz)
            | (go_at_call 12; (with_reducible refine pdirty_nil.mono ?_); rintro e wz ⟨rfl, hz⟩; subst hz)
            | (go_at_call 9; (with_reducible refine plen_nil.mono ?_); rintro e wz ⟨rfl, hz⟩; subst hz))
        go_ret
        exact Ret.mk (HX1.out.trans HW3.out.ext) rfl
      · have hyw : IntKind.i64.wrap (504 - off) = yi := by rw [IntKind.wrap_i64]; have := HYI.out; omega
        obtain ⟨nn, HNN⟩ : ∃ nn : Int, Hid ((n : Int) = nn) := ⟨_, hide rfl⟩
        by_cases o3 : yi < (n : Int)
        · have KB := hide (fun (W : World) => wd_write_arg (w := W) (p := p) 1 off A n cc HN.out 480 (.inr (by have := HYI.out; omega)))
          go_wp2_with (first
              | (go_at_call 15; (with_reducible refine (KB.out w3).mono ?_); rintro e wz ⟨rfl, hz⟩; subst hz)
              | (go_at_call 16; (with_reducible refine (pread_nil _).mono ?_); rintro e wz ⟨rfl, hz⟩; subst hz)
              | (go_at_call 15; (with_reducible refine (pwrite_nil _ _ _ _ _ _).mono ?_); rintro e wz ⟨rfl, hz⟩; subst hz)
              | (go_at_call 17; (with_reducible refine (ppin_nil _).mono ?_); rintro e wz ⟨rfl, hz⟩; subst hz)
              | (go_at_call 18; (with_reducible refine (punpin_nil _).mono ?_); rintro e wz ⟨rfl, hz⟩; subst hz)
              | (go_at_call 11; (with_reducible refine pflush_nil.mono ?_); rintro e wz ⟨rfl, hz⟩; subst hz)
              | (go_at_call 12; (with_reducible refine pdirty_nil.mono ?_); rintro e wz ⟨rfl, hz⟩; subst hz)
              | (go_at_call 9; (with_reducible refine plen_nil.mono ?_); rintro e wz ⟨rfl, hz⟩; subst hz))
          go_ret
          exact Ret.mk (HX1.out.trans HW3.out.ext) rfl
        · obtain ⟨o, HO⟩ : ∃ o : Nat, Hid ((o : Int) = off) := ⟨off.toNat, hide (by omega)⟩
          have KW : Hid (Calls Tryz.prog 15 #[.pointer (some ⟨p, 0, none⟩), .int .i64 1, .int .i64 off, .slice A n cc, .int .u64 480] w3 (fun e w' => e = .returned (.int .i64 0) ∧ Ext w1 w')) := hide (by
            have k1 := wd_write_out HW3.out HFT.out (by decide) HT1.out 1 s1 HP1.out o A l n cc HRD1.out HLN.out (by have h1 := HO.out; have h2 := HYI.out; omega) 480
            rw [HO.out] at k1
            refine k1.mono fun e w' hh => ?_
            obtain ⟨f, -, he, hw⟩ := hh
            exact ⟨he, hw.ext⟩)
          go_wp2_with (first
            | (go_at_call 15; (with_reducible refine KW.out.mono ?_); rintro e w4 ⟨rfl, hx4⟩; have HX4 := hide hx4; clear hx4)
            | (go_at_call 16; (with_reducible refine (pread_nil _).mono ?_); rintro e wz ⟨rfl, hz⟩; subst hz)
            | (go_at_call 15; (with_reducible refine (pwrite_nil _ _ _ _ _ _).mono ?_); rintro e wz ⟨rfl, hz⟩; subst hz)
            | (go_at_call 17; (with_reducible refine (ppin_nil _).mono ?_); rintro e wz ⟨rfl, hz⟩; subst hz)
            | (go_at_call 18; (with_reducible refine (punpin_nil _).mono ?_); rintro e wz ⟨rfl, hz⟩; subst hz)
            | (go_at_call 11; (with_reducible refine pflush_nil.mono ?_); rintro e wz ⟨rfl, hz⟩; subst hz)
            | (go_at_call 12; (with_reducible refine pdirty_nil.mono ?_); rintro e wz ⟨rfl, hz⟩; subst hz)
            | (go_at_call 9; (with_reducible refine plen_nil.mono ?_); rintro e wz ⟨rfl, hz⟩; subst hz))
          go_ret
          exact Ret.mk (HX1.out.trans HX4.out) rfl
end
end Go.Proofs.YtnkcneccolbbdaaGreatDoor
namespace Go.Proofs.YtnkcneccolbbdaaGreatDoor
open Go.RowKit

section
variable {w : World}
set_option maxRecDepth 20000 in
set_option maxHeartbeats 12800000 in
theorem errs_5 (at_ pg fr ix off : Int) (A : Option Addr) (l : List UInt8) (n cc : Nat) (hT : Tab w) (hrd : Rd w A l) (hln : l.length = n) (hn : n ≤ 140737488355328) (hpg : pg < 9223372036854775808) (hpg0 : -9223372036854775808 ≤ pg) (ho1 : -9223372036854775808 ≤ off) (ho2 : off < 9223372036854775808) (hr : 0 ≤ at_ ∧ 1 ≤ pg ∧ pg ≤ 4096 ∧ at_ ≤ 44 - pg ∧ fr < 1) :
    Calls Tryz.prog 4 #[.int .i64 at_, .int .i64 pg, .int .i64 fr, .int .i64 ix, .int .i64 off, .slice A n cc] w (Ret w (Is (.bool true))) := by
  have KA := hide (pawake_any w hT)
  have HT := hide hT
  have HRD := hide hrd
  have HLN := hide hln
  have HN := hide hn
  have HR := hide hr
  have HPG := hide hpg
  have HOFF := hide (And.intro ho1 ho2)
  have KF : Hid (∀ W, Ext w W → Calls Tryz.prog 6 #[.int .i64 3, .int .i64 2] W (fun e w' => ∃ b g q p, e = .returned (.pointer (some ⟨b, 0, none⟩)) ∧ Hid (W.heap.size ≤ b) ∧ Hid (Wd W w' b g q p (fS 3 2)))) := hide (fun W hW => wd_fresh (n := 3) (f := 2) (by decide) (by decide) ⟨by decide, by decide⟩ (HT.out.ext hW))
  have hft : (fS 3 2).Fit 10 := fresh_fit (by decide) (by decide) ⟨by decide, by decide⟩
  have HFT := hide hft
  have hp1 := page_new (S := fS 3 2) (i := 1) ⟨rfl, rfl⟩ hft (by decide) rfl (by decide)
  have HDL : Hid ((fS 3 2).D.dur.length = 44) := hide dk2_len
  obtain ⟨s1, HS1⟩ : ∃ s1, Hid (({ fS 3 2 with P := askP (bringP (fS 3 2).P 1 ((fS 3 2).D.at ((fS 3 2).P.at_ + 1))) 1 (frameB ((fS 3 2).D.at ((fS 3 2).P.at_ + 1))) } : St) = s1) := ⟨_, hide rfl⟩
  rw [HS1.out] at hp1
  rw [show ((1 : Nat) : Int) = 1 from rfl] at hp1
  have HP1 := hide hp1
  clear HS1
  obtain ⟨s0, HS0⟩ : ∃ s0, Hid (fS 3 2 = s0) := ⟨_, hide rfl⟩
  rw [HS0.out] at KF HFT HDL HP1
  obtain ⟨xi, HXI⟩ : ∃ xi : Int, Hid (44 - pg = xi) := ⟨_, hide rfl⟩
  obtain ⟨yi, HYI⟩ : ∃ yi : Int, Hid (504 - off = yi) := ⟨_, hide rfl⟩
  clear hT hrd hln hn hr hpg ho1 ho2 hft hp1 HS0
  go_enter Tryz.func4, Tryz.ntmps4
  go_upto_region 6 with (first
    | (go_at_call 5; (with_reducible refine KA.out.mono ?_); rintro e w1 ⟨rfl, hx1⟩; have HX1 := hide hx1; clear hx1)
    | (go_at_call 6; (with_reducible refine (KF.out w1 HX1.out).mono ?_); rintro e w2 ⟨b, g, q, p, rfl, HB, HW2⟩))
  clear KA KF
  have HT1 : Hid (Tab w1) := hide (HT.out.ext HX1.out)
  have HRD1 : Hid (Rd w1 A l) := hide (HRD.out.ext HX1.out)
  have d0 := HW2.out.c0
  have d1 := HW2.out.c1
  have KN : Hid (∀ W, Ext w2 W → Calls Tryz.prog 14 #[.pointer (some ⟨g, 0, none⟩), .pointer (some ⟨q, 0, none⟩), .int .i64 at_, .int .i64 pg, .int .i64 fr] W (fun e w' => e = .returned (.tuple #[.pointer none, .int .i64 1]) ∧ Ext W w')) := hide (fun W hW => by
    refine (wd_new_arg (HW2.out.ext_ hW) (by rw [HDL.out]; decide) at_ pg fr HPG.out (by rw [HDL.out]; have := HR.out; omega)).mono fun e w' hh => ?_
    obtain ⟨he, hw⟩ := hh
    subst hw
    exact ⟨he, Ext.refl _⟩)
  go_region_law (go_simp; go_at_call 14; (with_reducible refine (KN.out _ (Ext.drew _)).mono ?_); rintro e w3 ⟨rfl, hx3⟩; have HX3 : Hid (Ext w2 w3) := hide ((Ext.drew _).trans hx3); clear hx3)
  all_goals
    have HW3 : Hid (Wd w1 w3 b g q p s0) := hide (HW2.out.ext_ HX3.out)
    clear d0 d1 KN
    have d0 := HW3.out.c0
    have d1 := HW3.out.c1
    have d2 := HW3.out.c2
    have hr := HR.out
    have r1 : 0 ≤ at_ := hr.1
    have r2 : 1 ≤ pg := hr.2.1
    have r3 : pg ≤ 4096 := hr.2.2.1
    have r4 : at_ ≤ xi := by have := hr.2.2.2.1; have := HXI.out; omega
    have r5 : ¬ 1 ≤ fr := by omega
    have hxw : IntKind.i64.wrap (44 - pg) = xi := by rw [IntKind.wrap_i64]; have := HXI.out; omega
    clear hr
    go_upto_region 12 with (first
      | (go_at_call 14; (with_reducible refine (pnew_nil1 _ _ _ _).mono ?_); rintro e wz ⟨rfl, hz⟩; subst hz)
      | (go_at_call 14; (with_reducible refine (pnew_nil2 _ _ _ _).mono ?_); rintro e wz ⟨rfl, hz⟩; subst hz))
    clear d0 d1 hxw r1 r2 r3 r4 r5
    by_cases o1 : off < 0
    · have KB := hide (fun (W : World) => wd_write_arg (w := W) (p := p) 1 off A n cc HN.out 480 (.inl o1))
      go_wp2_with (first
          | (go_at_call 15; (with_reducible refine (KB.out w3).mono ?_); rintro e wz ⟨rfl, hz⟩; subst hz)
          | (go_at_call 16; (with_reducible refine (pread_nil _).mono ?_); rintro e wz ⟨rfl, hz⟩; subst hz)
          | (go_at_call 15; (with_reducible refine (pwrite_nil _ _ _ _ _ _).mono ?_); rintro e wz ⟨rfl, hz⟩; subst hz)
          | (go_at_call 17; (with_reducible refine (ppin_nil _).mono ?_); rintro e wz ⟨rfl, hz⟩; subst hz)
          | (go_at_call 18; (with_reducible refine (punpin_nil _).mono ?_); rintro e wz ⟨rfl, hz⟩; subst hz)
          | (go_at_call 11; (with_reducible refine pflush_nil.mono ?_); rintro e wz ⟨rfl, hz⟩; subst hz)
          | (go_at_call 12; (with_reducible refine pdirty_nil.mono ?_); rintro e wz ⟨rfl, hz⟩; subst hz)
          | (go_at_call 9; (with_reducible refine plen_nil.mono ?_); rintro e wz ⟨rfl, hz⟩; subst hz))
      go_ret
      exact Ret.mk (HX1.out.trans HW3.out.ext) rfl
    · by_cases o2 : 504 < off
      · have KB := hide (fun (W : World) => wd_write_arg (w := W) (p := p) 1 off A n cc HN.out 480 (.inr (by omega)))
        go_wp2_with (first
            | (go_at_call 15; (with_reducible refine (KB.out w3).mono ?_); rintro e wz ⟨rfl, hz⟩; subst hz)
            | (go_at_call 16; (with_reducible refine (pread_nil _).mono ?_); rintro e wz ⟨rfl, hz⟩; subst hz)
            | (go_at_call 15; (with_reducible refine (pwrite_nil _ _ _ _ _ _).mono ?_); rintro e wz ⟨rfl, hz⟩; subst hz)
            | (go_at_call 17; (with_reducible refine (ppin_nil _).mono ?_); rintro e wz ⟨rfl, hz⟩; subst hz)
            | (go_at_call 18; (with_reducible refine (punpin_nil _).mono ?_); rintro e wz ⟨rfl, hz⟩; subst hz)
            | (go_at_call 11; (with_reducible refine pflush_nil.mono ?_); rintro e wz ⟨rfl, hz⟩; subst hz)
            | (go_at_call 12; (with_reducible refine pdirty_nil.mono ?_); rintro e wz ⟨rfl, hz⟩; subst hz)
            | (go_at_call 9; (with_reducible refine plen_nil.mono ?_); rintro e wz ⟨rfl, hz⟩; subst hz))
        go_ret
        exact Ret.mk (HX1.out.trans HW3.out.ext) rfl
      · have hyw : IntKind.i64.wrap (504 - off) = yi := by rw [IntKind.wrap_i64]; have := HYI.out; omega
        obtain ⟨nn, HNN⟩ : ∃ nn : Int, Hid ((n : Int) = nn) := ⟨_, hide rfl⟩
        by_cases o3 : yi < (n : Int)
        · have KB := hide (fun (W : World) => wd_write_arg (w := W) (p := p) 1 off A n cc HN.out 480 (.inr (by have := HYI.out; omega)))
          go_wp2_with (first
              | (go_at_call 15; (with_reducible refine (KB.out w3).mono ?_); rintro e wz ⟨rfl, hz⟩; subst hz)
              | (go_at_call 16; (with_reducible refine (pread_nil _).mono ?_); rintro e wz ⟨rfl, hz⟩; subst hz)
              | (go_at_call 15; (with_reducible refine (pwrite_nil _ _ _ _ _ _).mono ?_); rintro e wz ⟨rfl, hz⟩; subst hz)
              | (go_at_call 17; (with_reducible refine (ppin_nil _).mono ?_); rintro e wz ⟨rfl, hz⟩; subst hz)
              | (go_at_call 18; (with_reducible refine (punpin_nil _).mono ?_); rintro e wz ⟨rfl, hz⟩; subst hz)
              | (go_at_call 11; (with_reducible refine pflush_nil.mono ?_); rintro e wz ⟨rfl, hz⟩; subst hz)
              | (go_at_call 12; (with_reducible refine pdirty_nil.mono ?_); rintro e wz ⟨rfl, hz⟩; subst hz)
              | (go_at_call 9; (with_reducible refine plen_nil.mono ?_); rintro e wz ⟨rfl, hz⟩; subst hz))
          go_ret
          exact Ret.mk (HX1.out.trans HW3.out.ext) rfl
        · obtain ⟨o, HO⟩ : ∃ o : Nat, Hid ((o : Int) = off) := ⟨off.toNat, hide (by omega)⟩
          have KW : Hid (Calls Tryz.prog 15 #[.pointer (some ⟨p, 0, none⟩), .int .i64 1, .int .i64 off, .slice A n cc, .int .u64 480] w3 (fun e w' => e = .returned (.int .i64 0) ∧ Ext w1 w')) := hide (by
            have k1 := wd_write_out HW3.out HFT.out (by decide) HT1.out 1 s1 HP1.out o A l n cc HRD1.out HLN.out (by have h1 := HO.out; have h2 := HYI.out; omega) 480
            rw [HO.out] at k1
            refine k1.mono fun e w' hh => ?_
            obtain ⟨f, -, he, hw⟩ := hh
            exact ⟨he, hw.ext⟩)
          go_wp2_with (first
            | (go_at_call 15; (with_reducible refine KW.out.mono ?_); rintro e w4 ⟨rfl, hx4⟩; have HX4 := hide hx4; clear hx4)
            | (go_at_call 16; (with_reducible refine (pread_nil _).mono ?_); rintro e wz ⟨rfl, hz⟩; subst hz)
            | (go_at_call 15; (with_reducible refine (pwrite_nil _ _ _ _ _ _).mono ?_); rintro e wz ⟨rfl, hz⟩; subst hz)
            | (go_at_call 17; (with_reducible refine (ppin_nil _).mono ?_); rintro e wz ⟨rfl, hz⟩; subst hz)
            | (go_at_call 18; (with_reducible refine (punpin_nil _).mono ?_); rintro e wz ⟨rfl, hz⟩; subst hz)
            | (go_at_call 11; (with_reducible refine pflush_nil.mono ?_); rintro e wz ⟨rfl, hz⟩; subst hz)
            | (go_at_call 12; (with_reducible refine pdirty_nil.mono ?_); rintro e wz ⟨rfl, hz⟩; subst hz)
            | (go_at_call 9; (with_reducible refine plen_nil.mono ?_); rintro e wz ⟨rfl, hz⟩; subst hz))
          go_ret
          exact Ret.mk (HX1.out.trans HX4.out) rfl
end
end Go.Proofs.YtnkcneccolbbdaaGreatDoor
namespace Go.Proofs.YtnkcneccolbbdaaGreatDoor
open Go.RowKit

section
variable {w : World}
set_option maxRecDepth 20000 in
set_option maxHeartbeats 12800000 in
theorem errs_6 (at_ pg fr ix off : Int) (A : Option Addr) (l : List UInt8) (n cc : Nat) (hT : Tab w) (hrd : Rd w A l) (hln : l.length = n) (hn : n ≤ 140737488355328) (hpg : pg < 9223372036854775808) (hpg0 : -9223372036854775808 ≤ pg) (ho1 : -9223372036854775808 ≤ off) (ho2 : off < 9223372036854775808) (hr : 0 ≤ at_ ∧ 1 ≤ pg ∧ pg ≤ 4096 ∧ at_ ≤ 44 - pg ∧ 64 < fr) :
    Calls Tryz.prog 4 #[.int .i64 at_, .int .i64 pg, .int .i64 fr, .int .i64 ix, .int .i64 off, .slice A n cc] w (Ret w (Is (.bool true))) := by
  have KA := hide (pawake_any w hT)
  have HT := hide hT
  have HRD := hide hrd
  have HLN := hide hln
  have HN := hide hn
  have HR := hide hr
  have HPG := hide hpg
  have HOFF := hide (And.intro ho1 ho2)
  have KF : Hid (∀ W, Ext w W → Calls Tryz.prog 6 #[.int .i64 3, .int .i64 2] W (fun e w' => ∃ b g q p, e = .returned (.pointer (some ⟨b, 0, none⟩)) ∧ Hid (W.heap.size ≤ b) ∧ Hid (Wd W w' b g q p (fS 3 2)))) := hide (fun W hW => wd_fresh (n := 3) (f := 2) (by decide) (by decide) ⟨by decide, by decide⟩ (HT.out.ext hW))
  have hft : (fS 3 2).Fit 10 := fresh_fit (by decide) (by decide) ⟨by decide, by decide⟩
  have HFT := hide hft
  have hp1 := page_new (S := fS 3 2) (i := 1) ⟨rfl, rfl⟩ hft (by decide) rfl (by decide)
  have HDL : Hid ((fS 3 2).D.dur.length = 44) := hide dk2_len
  obtain ⟨s1, HS1⟩ : ∃ s1, Hid (({ fS 3 2 with P := askP (bringP (fS 3 2).P 1 ((fS 3 2).D.at ((fS 3 2).P.at_ + 1))) 1 (frameB ((fS 3 2).D.at ((fS 3 2).P.at_ + 1))) } : St) = s1) := ⟨_, hide rfl⟩
  rw [HS1.out] at hp1
  rw [show ((1 : Nat) : Int) = 1 from rfl] at hp1
  have HP1 := hide hp1
  clear HS1
  obtain ⟨s0, HS0⟩ : ∃ s0, Hid (fS 3 2 = s0) := ⟨_, hide rfl⟩
  rw [HS0.out] at KF HFT HDL HP1
  obtain ⟨xi, HXI⟩ : ∃ xi : Int, Hid (44 - pg = xi) := ⟨_, hide rfl⟩
  obtain ⟨yi, HYI⟩ : ∃ yi : Int, Hid (504 - off = yi) := ⟨_, hide rfl⟩
  clear hT hrd hln hn hr hpg ho1 ho2 hft hp1 HS0
  go_enter Tryz.func4, Tryz.ntmps4
  go_upto_region 6 with (first
    | (go_at_call 5; (with_reducible refine KA.out.mono ?_); rintro e w1 ⟨rfl, hx1⟩; have HX1 := hide hx1; clear hx1)
    | (go_at_call 6; (with_reducible refine (KF.out w1 HX1.out).mono ?_); rintro e w2 ⟨b, g, q, p, rfl, HB, HW2⟩))
  clear KA KF
  have HT1 : Hid (Tab w1) := hide (HT.out.ext HX1.out)
  have HRD1 : Hid (Rd w1 A l) := hide (HRD.out.ext HX1.out)
  have d0 := HW2.out.c0
  have d1 := HW2.out.c1
  have KN : Hid (∀ W, Ext w2 W → Calls Tryz.prog 14 #[.pointer (some ⟨g, 0, none⟩), .pointer (some ⟨q, 0, none⟩), .int .i64 at_, .int .i64 pg, .int .i64 fr] W (fun e w' => e = .returned (.tuple #[.pointer none, .int .i64 1]) ∧ Ext W w')) := hide (fun W hW => by
    refine (wd_new_arg (HW2.out.ext_ hW) (by rw [HDL.out]; decide) at_ pg fr HPG.out (by rw [HDL.out]; have := HR.out; omega)).mono fun e w' hh => ?_
    obtain ⟨he, hw⟩ := hh
    subst hw
    exact ⟨he, Ext.refl _⟩)
  go_region_law (go_simp; go_at_call 14; (with_reducible refine (KN.out _ (Ext.drew _)).mono ?_); rintro e w3 ⟨rfl, hx3⟩; have HX3 : Hid (Ext w2 w3) := hide ((Ext.drew _).trans hx3); clear hx3)
  all_goals
    have HW3 : Hid (Wd w1 w3 b g q p s0) := hide (HW2.out.ext_ HX3.out)
    clear d0 d1 KN
    have d0 := HW3.out.c0
    have d1 := HW3.out.c1
    have d2 := HW3.out.c2
    have hr := HR.out
    have r1 : 0 ≤ at_ := hr.1
    have r2 : 1 ≤ pg := hr.2.1
    have r3 : pg ≤ 4096 := hr.2.2.1
    have r4 : at_ ≤ xi := by have := hr.2.2.2.1; have := HXI.out; omega
    have r5 : 1 ≤ fr := by omega
    have r6 : ¬ fr ≤ 64 := by omega
    have hxw : IntKind.i64.wrap (44 - pg) = xi := by rw [IntKind.wrap_i64]; have := HXI.out; omega
    clear hr
    go_upto_region 12 with (first
      | (go_at_call 14; (with_reducible refine (pnew_nil1 _ _ _ _).mono ?_); rintro e wz ⟨rfl, hz⟩; subst hz)
      | (go_at_call 14; (with_reducible refine (pnew_nil2 _ _ _ _).mono ?_); rintro e wz ⟨rfl, hz⟩; subst hz))
    clear d0 d1 hxw r1 r2 r3 r4 r5 r6
    by_cases o1 : off < 0
    · have KB := hide (fun (W : World) => wd_write_arg (w := W) (p := p) 1 off A n cc HN.out 480 (.inl o1))
      go_wp2_with (first
          | (go_at_call 15; (with_reducible refine (KB.out w3).mono ?_); rintro e wz ⟨rfl, hz⟩; subst hz)
          | (go_at_call 16; (with_reducible refine (pread_nil _).mono ?_); rintro e wz ⟨rfl, hz⟩; subst hz)
          | (go_at_call 15; (with_reducible refine (pwrite_nil _ _ _ _ _ _).mono ?_); rintro e wz ⟨rfl, hz⟩; subst hz)
          | (go_at_call 17; (with_reducible refine (ppin_nil _).mono ?_); rintro e wz ⟨rfl, hz⟩; subst hz)
          | (go_at_call 18; (with_reducible refine (punpin_nil _).mono ?_); rintro e wz ⟨rfl, hz⟩; subst hz)
          | (go_at_call 11; (with_reducible refine pflush_nil.mono ?_); rintro e wz ⟨rfl, hz⟩; subst hz)
          | (go_at_call 12; (with_reducible refine pdirty_nil.mono ?_); rintro e wz ⟨rfl, hz⟩; subst hz)
          | (go_at_call 9; (with_reducible refine plen_nil.mono ?_); rintro e wz ⟨rfl, hz⟩; subst hz))
      go_ret
      exact Ret.mk (HX1.out.trans HW3.out.ext) rfl
    · by_cases o2 : 504 < off
      · have KB := hide (fun (W : World) => wd_write_arg (w := W) (p := p) 1 off A n cc HN.out 480 (.inr (by omega)))
        go_wp2_with (first
            | (go_at_call 15; (with_reducible refine (KB.out w3).mono ?_); rintro e wz ⟨rfl, hz⟩; subst hz)
            | (go_at_call 16; (with_reducible refine (pread_nil _).mono ?_); rintro e wz ⟨rfl, hz⟩; subst hz)
            | (go_at_call 15; (with_reducible refine (pwrite_nil _ _ _ _ _ _).mono ?_); rintro e wz ⟨rfl, hz⟩; subst hz)
            | (go_at_call 17; (with_reducible refine (ppin_nil _).mono ?_); rintro e wz ⟨rfl, hz⟩; subst hz)
            | (go_at_call 18; (with_reducible refine (punpin_nil _).mono ?_); rintro e wz ⟨rfl, hz⟩; subst hz)
            | (go_at_call 11; (with_reducible refine pflush_nil.mono ?_); rintro e wz ⟨rfl, hz⟩; subst hz)
            | (go_at_call 12; (with_reducible refine pdirty_nil.mono ?_); rintro e wz ⟨rfl, hz⟩; subst hz)
            | (go_at_call 9; (with_reducible refine plen_nil.mono ?_); rintro e wz ⟨rfl, hz⟩; subst hz))
        go_ret
        exact Ret.mk (HX1.out.trans HW3.out.ext) rfl
      · have hyw : IntKind.i64.wrap (504 - off) = yi := by rw [IntKind.wrap_i64]; have := HYI.out; omega
        obtain ⟨nn, HNN⟩ : ∃ nn : Int, Hid ((n : Int) = nn) := ⟨_, hide rfl⟩
        by_cases o3 : yi < (n : Int)
        · have KB := hide (fun (W : World) => wd_write_arg (w := W) (p := p) 1 off A n cc HN.out 480 (.inr (by have := HYI.out; omega)))
          go_wp2_with (first
              | (go_at_call 15; (with_reducible refine (KB.out w3).mono ?_); rintro e wz ⟨rfl, hz⟩; subst hz)
              | (go_at_call 16; (with_reducible refine (pread_nil _).mono ?_); rintro e wz ⟨rfl, hz⟩; subst hz)
              | (go_at_call 15; (with_reducible refine (pwrite_nil _ _ _ _ _ _).mono ?_); rintro e wz ⟨rfl, hz⟩; subst hz)
              | (go_at_call 17; (with_reducible refine (ppin_nil _).mono ?_); rintro e wz ⟨rfl, hz⟩; subst hz)
              | (go_at_call 18; (with_reducible refine (punpin_nil _).mono ?_); rintro e wz ⟨rfl, hz⟩; subst hz)
              | (go_at_call 11; (with_reducible refine pflush_nil.mono ?_); rintro e wz ⟨rfl, hz⟩; subst hz)
              | (go_at_call 12; (with_reducible refine pdirty_nil.mono ?_); rintro e wz ⟨rfl, hz⟩; subst hz)
              | (go_at_call 9; (with_reducible refine plen_nil.mono ?_); rintro e wz ⟨rfl, hz⟩; subst hz))
          go_ret
          exact Ret.mk (HX1.out.trans HW3.out.ext) rfl
        · obtain ⟨o, HO⟩ : ∃ o : Nat, Hid ((o : Int) = off) := ⟨off.toNat, hide (by omega)⟩
          have KW : Hid (Calls Tryz.prog 15 #[.pointer (some ⟨p, 0, none⟩), .int .i64 1, .int .i64 off, .slice A n cc, .int .u64 480] w3 (fun e w' => e = .returned (.int .i64 0) ∧ Ext w1 w')) := hide (by
            have k1 := wd_write_out HW3.out HFT.out (by decide) HT1.out 1 s1 HP1.out o A l n cc HRD1.out HLN.out (by have h1 := HO.out; have h2 := HYI.out; omega) 480
            rw [HO.out] at k1
            refine k1.mono fun e w' hh => ?_
            obtain ⟨f, -, he, hw⟩ := hh
            exact ⟨he, hw.ext⟩)
          go_wp2_with (first
            | (go_at_call 15; (with_reducible refine KW.out.mono ?_); rintro e w4 ⟨rfl, hx4⟩; have HX4 := hide hx4; clear hx4)
            | (go_at_call 16; (with_reducible refine (pread_nil _).mono ?_); rintro e wz ⟨rfl, hz⟩; subst hz)
            | (go_at_call 15; (with_reducible refine (pwrite_nil _ _ _ _ _ _).mono ?_); rintro e wz ⟨rfl, hz⟩; subst hz)
            | (go_at_call 17; (with_reducible refine (ppin_nil _).mono ?_); rintro e wz ⟨rfl, hz⟩; subst hz)
            | (go_at_call 18; (with_reducible refine (punpin_nil _).mono ?_); rintro e wz ⟨rfl, hz⟩; subst hz)
            | (go_at_call 11; (with_reducible refine pflush_nil.mono ?_); rintro e wz ⟨rfl, hz⟩; subst hz)
            | (go_at_call 12; (with_reducible refine pdirty_nil.mono ?_); rintro e wz ⟨rfl, hz⟩; subst hz)
            | (go_at_call 9; (with_reducible refine plen_nil.mono ?_); rintro e wz ⟨rfl, hz⟩; subst hz))
          go_ret
          exact Ret.mk (HX1.out.trans HX4.out) rfl
end
end Go.Proofs.YtnkcneccolbbdaaGreatDoor
namespace Go.Proofs.YtnkcneccolbbdaaGreatDoor
open Go.RowKit

theorem errs_walk {w : World} (at_ pg fr ix off : Int) (A : Option Addr) (l : List UInt8) (n cc : Nat) (hT : Tab w) (hrd : Rd w A l) (hln : l.length = n) (hn : n ≤ 140737488355328) (hp : -9223372036854775808 ≤ pg ∧ pg ≤ 9223372036854775807) (ho : -9223372036854775808 ≤ off ∧ off ≤ 9223372036854775807) :
    Calls Tryz.prog 4 #[.int .i64 at_, .int .i64 pg, .int .i64 fr, .int .i64 ix, .int .i64 off, .slice A n cc] w (Ret w (Is (.bool true))) := by
  by_cases h1 : at_ < 0
  · exact errs_1 at_ pg fr ix off A l n cc hT hrd hln hn (by omega) hp.1 ho.1 (by omega) h1
  · by_cases h2 : pg < 1
    · exact errs_2 at_ pg fr ix off A l n cc hT hrd hln hn (by omega) hp.1 ho.1 (by omega) ⟨by omega, h2⟩
    · by_cases h3 : 4096 < pg
      · exact errs_3 at_ pg fr ix off A l n cc hT hrd hln hn (by omega) hp.1 ho.1 (by omega) ⟨by omega, h3⟩
      · by_cases h4 : 44 - pg < at_
        · exact errs_4 at_ pg fr ix off A l n cc hT hrd hln hn (by omega) hp.1 ho.1 (by omega) ⟨by omega, by omega, by omega, h4⟩
        · by_cases h5 : fr < 1
          · exact errs_5 at_ pg fr ix off A l n cc hT hrd hln hn (by omega) hp.1 ho.1 (by omega) ⟨by omega, by omega, by omega, by omega, h5⟩
          · by_cases h6 : 64 < fr
            · exact errs_6 at_ pg fr ix off A l n cc hT hrd hln hn (by omega) hp.1 ho.1 (by omega) ⟨by omega, by omega, by omega, by omega, h6⟩
            · exact errs_0 at_ pg fr ix off A l n cc hT hrd hln hn (by omega) hp.1 ho.1 (by omega) ⟨by omega, by omega, by omega, by omega, by omega, by omega⟩
end Go.Proofs.YtnkcneccolbbdaaGreatDoor
namespace Go.Proofs.YtnkcneccolbbdaaGreatDoor.lawPoolErrs
open Go.ChangeShapes Go.WideShapes Go.ChangeAt Go.RowKit
open Go.ChangeMaps (open_string)

set_option maxRecDepth 100000 in
theorem contract (H : Type) (enc : TypeId × Value → H) (W : World) (base : Nat) (args : Array Value) (ds gs : List (DataW H)) (before : List MemPlace)
    (hval : ∀ (j : Nat) t v, Tryz.f4.params[j]? = some t → args[j]? = some v → Value.okWide Tryz.prog W .any base t v)
    (hW : DataW.Whole enc Tryz.prog Tryz.f4.params.toList Rows.poolErrsSpec.vars false W args.toList ds gs before) (hz : (DataW.weightsEach Tryz.prog (Tryz.f4.params.toList ++ (OpenSpec.ofChange Rows.poolErrsSpec).bare.plain.varTypes Tryz.prog) (ds ++ gs)).all (· ≤ reachBytes) = true) (hL : laidMetH Tryz.prog Rows.poolErrsRow.laid W) :
    Calls Tryz.prog 4 args W fun e W' => ∃ v, e = .returned v ∧ Rows.poolErrsSpec.post enc Tryz.prog Tryz.f4 false true false false W args v W' := by
  have hW' := hW
  obtain ⟨p, q, hA0, hV, hbe, hfz, hnd⟩ := hW
  have hA : DataW.TrodAll enc Tryz.prog W 0 (fun _ => true) true Tryz.f4.params.toList args.toList ds p := hA0
  obtain ⟨rfl, rfl⟩ := trodVars_none hV
  rw [Tryz.params4] at hA hval
  obtain ⟨v0, vs0, d0, ds0, p0, q0, hg0, hd0, hp0, h0, r0⟩ := trodAll_cons hA
  obtain ⟨v1, vs1, d1, ds1, p1, q1, hg1, hd1, hp1, h1, r1⟩ := trodAll_cons r0
  obtain ⟨v2, vs2, d2, ds2, p2, q2, hg2, hd2, hp2, h2, r2⟩ := trodAll_cons r1
  obtain ⟨v3, vs3, d3, ds3, p3, q3, hg3, hd3, hp3, h3, r3⟩ := trodAll_cons r2
  obtain ⟨v4, vs4, d4, ds4, p4, q4, hg4, hd4, hp4, h4, r4⟩ := trodAll_cons r3
  obtain ⟨v5, vs5, d5, ds5, p5, q5, hg5, hd5, hp5, h5, r5⟩ := trodAll_cons r4
  obtain ⟨e1, e2, e3⟩ := trodAll_nil r5
  have hds : ds = [d0, d1, d2, d3, d4, d5] := by simp [hd0, hd1, hd2, hd3, hd4, hd5, e2]
  obtain rfl : args = #[v0, v1, v2, v3, v4, v5] := by
    have : args.toList = [v0, v1, v2, v3, v4, v5] := by simp [hg0, hg1, hg2, hg3, hg4, hg5, e1]
    exact Array.toList_inj.1 this
  subst hds
  obtain ⟨n0, rfl, hd0, -, wf0⟩ := open_int Tryz.underlying3 (hval 0 3 v0 rfl rfl) h0
  have hb0 := bounds_i64 wf0
  obtain ⟨n1, rfl, hd1, -, wf1⟩ := open_int Tryz.underlying3 (hval 1 3 v1 rfl rfl) h1
  have hb1 := bounds_i64 wf1
  obtain ⟨n2, rfl, hd2, -, wf2⟩ := open_int Tryz.underlying3 (hval 2 3 v2 rfl rfl) h2
  have hb2 := bounds_i64 wf2
  obtain ⟨n3, rfl, hd3, -, wf3⟩ := open_int Tryz.underlying3 (hval 3 3 v3 rfl rfl) h3
  have hb3 := bounds_i64 wf3
  obtain ⟨n4, rfl, hd4, -, wf4⟩ := open_int Tryz.underlying3 (hval 4 3 v4 rfl rfl) h4
  have hb4 := bounds_i64 wf4
  obtain ⟨A5, c5, l5, rfl, hlc5, hr5, hd5⟩ := open_bytes (hval 5 32 v5 rfl rfl) h5
  have hb5 := reach_bytes hz (j := 5) rfl rfl Tryz.underlying32 (by kernel_rfl) hd5
  have ht := tab_of_laid hL
  refine (errs_walk n0 n1 n2 n3 n4 A5 l5 l5.length c5 ht hr5 rfl (Nat.le_trans hb5 (by decide)) hb1 hb4).mono fun e W' ⟨v, he, hx, hv⟩ => ?_
  subst he
  have hv' : v = .bool true := hv
  subst hv'
  exact ⟨_, rfl, law_post laidOut hW' rfl (by rw [Tryz.params4]; exact readable_all _ (by kernel_rfl)) (by kernel_rfl) Tryz.underlying4 rfl hx⟩

theorem laid_met (os : Os) : laidMet Tryz.prog Rows.poolErrsRow.laid ((laidWorld os).forCall (fun _ _ => 0) ⟨#[], #[Value.int .i64 0, Value.int .i64 0, Value.int .i64 0, Value.int .i64 0, Value.int .i64 0, Value.slice none 0 0], []⟩).memory :=
  laidMet_of_run' 8 (by kernel_rfl) (by kernel_rfl)
theorem reads (os : Os) {H : Type} (enc : TypeId × Value → H) : ∃ places, DataW.whole enc Tryz.prog ((laidWorld os).forCall (fun _ _ => 0) ⟨#[], #[Value.int .i64 0, Value.int .i64 0, Value.int .i64 0, Value.int .i64 0, Value.int .i64 0, Value.slice none 0 0], []⟩).memory Tryz.f4.params.toList Rows.poolErrsSpec.vars false (#[Value.int .i64 0, Value.int .i64 0, Value.int .i64 0, Value.int .i64 0, Value.int .i64 0, Value.slice none 0 0]).toList 8 = some ([.lit (.int .i64 0), .lit (.int .i64 0), .lit (.int .i64 0), .lit (.int .i64 0), .lit (.int .i64 0), .nil], [], places) :=
  ⟨[], by kernel_rfl⟩

set_option maxRecDepth 100000 in
theorem lifted (os : Os) (started : os.Started) (H : Type) (enc : TypeId × Value → H) (F : Stop.Interp) :
    ReturnsInHanded {} Tryz.checked os 4 .any ((OpenSpec.ofChange Rows.poolErrsSpec).preRow enc Tryz.prog Tryz.f4 Rows.poolErrsRow.domain false Rows.poolErrsRow.laid) (((OpenSpec.ofChange Rows.poolErrsSpec).at F).post enc Tryz.prog Tryz.f4 false true false false) := by
  obtain ⟨places, hx⟩ := reads os enc
  refine returnsInHanded_of_row (C := Tryz.checked) (s := (OpenSpec.ofChange Rows.poolErrsSpec)) own started (by kernel_rfl) Tryz.func4
    (witness_row_at (enc := enc) (C := Tryz.checked) false (laidWorld os) #[Value.int .i64 0, Value.int .i64 0, Value.int .i64 0, Value.int .i64 0, Value.int .i64 0, Value.slice none 0 0] rfl (by kernel_rfl) (by kernel_rfl) (by kernel_rfl)
      (OpenSpec.preRow_of_cond 8 hx (by kernel_rfl) (fun k hk => by cases hk) (by kernel_rfl) (laid_met os))) ?_
  intro W base args ds gs before hval hW _ hcond hz hL _ _
  exact contract H enc W base args ds gs before hval hW hz hL

theorem said : Rows.PoolErrsSaid :=
  OpenClaim.holds_of_cond 4 Tryz.f4 rfl rfl rfl rfl rfl rfl rfl ⟨rfl, rfl, rfl, rfl, rfl⟩ rfl rfl rfl rfl rfl (by kernel_rfl) Tryz.func4 (by kernel_rfl)
    (of_decide_eq_true (by kernel_rfl)) (by unfold Func.isWrapper; first | (rw [if_pos (by decide +kernel)]; kernel_rfl) | (rw [if_neg (by decide +kernel)]; exact ⟨rfl, rfl⟩))
    (fun os started H enc _ F => by rw [OpenClaim.pre_eq_preRow]; exact lifted os started H enc F)

theorem plain (f : FuncId) (fn : Func) (hf : Tryz.pinned.checked.prog.funcNamed "muniment/munimentlaw11.PoolErrs" = some f) (hfn : Tryz.pinned.checked.prog.funcs[f]? = some fn) :
    Rows.poolErrsCard.stood.looks = Tryz.pinned.checked.prog.looks [] ∧ ∀ (j : Nat) t, fn.params[j]? = some t → Tryz.pinned.checked.prog.wantsStandIn t = false := by
  obtain rfl : f = 4 := Option.some.inj ((show Tryz.prog.funcNamed "muniment/munimentlaw11.PoolErrs" = some 4 by kernel_rfl).symm.trans hf) |>.symm
  obtain rfl : fn = Tryz.f4 := (Option.some.inj (Tryz.func4.symm.trans hfn)).symm
  refine ⟨by kernel_rfl, fun j t ht => ?_⟩
  have h := (show (Tryz.f4.params.toList.all fun t => !Tryz.prog.wantsStandIn t) = true by kernel_rfl)
  have h2 := List.all_eq_true.1 h t (by simpa using Array.mem_of_getElem? ht)
  have h3 : Tryz.prog.wantsStandIn t = false := by simpa using h2
  exact h3

/-- The card. -/
theorem card : Rows.PoolErrsCardSaid :=
  Claim7.holds_tied_plain_at .later [] _ _ _ _ said (fun _ h => by cases h) (by kernel_rfl) (fun _ h => by cases h) poolErrs_row_tie rfl ⟨rfl, rfl⟩ (by kernel_rfl) rfl plain (by kernel_rfl)
end Go.Proofs.YtnkcneccolbbdaaGreatDoor.lawPoolErrs
namespace Go.Proofs.YtnkcneccolbbdaaGreatDoor
open Go.RowKit

def dV (l : List (Nat × Nat)) : List Value := (l.map fun r => [Value.int .i64 (r.1 : Int), .int .u64 (r.2 : Int)]).flatten
theorem dV_len (l : List (Nat × Nat)) : (dV l).length = l.length * 2 := flat_len (m := 2) _ (fun s hs => by
  obtain ⟨r, -, rfl⟩ := List.mem_map.1 hs
  rfl) |>.trans (by rw [List.length_map])
theorem dV_app (l m : List (Nat × Nat)) : dV (l ++ m) = dV l ++ dV m := by simp [dV]
theorem dV_get (l : List (Nat × Nat)) (j : Nat) (r : Nat × Nat) (h : l[j]? = some r) : (dV l)[j * 2]? = some (.int .i64 (r.1 : Int)) ∧ (dV l)[j * 2 + 1]? = some (.int .u64 (r.2 : Int)) := by
  have hl : ∀ s ∈ l.map (fun r : Nat × Nat => [Value.int .i64 (r.1 : Int), .int .u64 (r.2 : Int)]), s.length = 2 := fun s hs => by
    obtain ⟨r, -, rfl⟩ := List.mem_map.1 hs
    rfl
  have hi : (l.map (fun r : Nat × Nat => [Value.int .i64 (r.1 : Int), .int .u64 (r.2 : Int)]))[j]? = some [Value.int .i64 (r.1 : Int), .int .u64 (r.2 : Int)] := by rw [List.getElem?_map, h]; rfl
  exact ⟨flat_get hl hi (j := 0) (by decide), flat_get hl hi (j := 1) (by decide)⟩
/-- The slice v of one's own holds these. -/
def OwnD (w : World) (B : Nat) (v : Value) (l : List (Nat × Nat)) : Prop := w.ownsRow B 76 2 v l.length (dV l)
/-- They stand there. -/
def DRow (w : World) (A : Option Addr) (l : List (Nat × Nat)) : Prop := l ≠ [] → ∃ g, A = some ⟨g, 0, none⟩ ∧ ∀ (j : Nat) (r : Nat × Nat), l[j]? = some r → w.cell? ⟨g, j * 2, none⟩ = some (.int .i64 (r.1 : Int)) ∧ w.cell? ⟨g, j * 2 + 1, none⟩ = some (.int .u64 (r.2 : Int))
theorem info_dirty : (Tryz.prog.info? 76).map (fun i => (i.zero, i.size, i.bytes)) = some (some (.agg #[.int .i64 0, .int .u64 0]), 2, 16) := by kernel_rfl
theorem info_partsD : ∃ i0, Tryz.prog.info? 76 = some i0 ∧ i0.zero = some (.agg #[.int .i64 0, .int .u64 0]) ∧ i0.size = 2 ∧ i0.bytes = 16 := by
  have h := info_dirty
  cases hq : Tryz.prog.info? 76 with
  | none => rw [hq] at h; cases h
  | some i =>
    rw [hq] at h
    simp only [Option.map_some, Option.some.injEq, Prod.mk.injEq] at h
    exact ⟨i, rfl, h.1, h.2.1, h.2.2⟩
section
variable {ops : Array Oper} {rest : List Oper} {o : Oper} {a : Act} {Q : Exit → Act → World → Prop}
theorem wpList_pushD {w0 : World} (hgd : o.guard = none) (s x : Operand) (ho : o.op = .call { callee := .builtin .append, args := #[s, x], argTypes := #[48, 48] })
    (base : Nat) (v : Value) (L : List (Nat × Nat)) (i t : Nat) (hs : a.eval s = v) (hx : a.eval x = .slice (some ⟨w0.heap.size, 0, none⟩) 1 1) (hown : OwnD w0 base v L) (hbase : base ≤ w0.heap.size) (hlen : L.length < 1000000)
    (h : ∀ v' w', OwnD w' base v' (L ++ [(i, t)]) → w0.grownBy w' v.ownBlock → wpList Tryz.prog ops Q rest (a.put o.dst v') w') : wpList Tryz.prog ops Q (o :: rest) a (w0.alloc (.cells #[.int .i64 (i : Int), .int .u64 (t : Int)] 76)) := by
  obtain ⟨i0, hi, hz, hsz, hby⟩ := info_partsD
  have R := Rw.new w0 76 [.int .i64 (i : Int), .int .u64 (t : Int)]
  have hX := Ext.alloc w0 (.cells #[.int .i64 (i : Int), .int .u64 (t : Int)] 76)
  have hown' : (w0.alloc (.cells #[.int .i64 (i : Int), .int .u64 (t : Int)] 76)).ownsRow base 76 2 v L.length (dV L) := World.ownsRow.alloc hown _
  have hone : ∀ u ∈ [Value.int .i64 (i : Int), .int .u64 (t : Int)], u.oneCell' = true := by
    intro u hu
    simp only [List.mem_cons, List.not_mem_nil, or_false] at hu
    rcases hu with rfl | rfl <;> rfl
  refine wpList_append_own _ hgd s x 48 ho base 76 i0 _ 2 16 Tryz.underlying48 hi hz hsz hby rfl (by decide) v L.length (dV L) hs hown' ⟨w0.heap.size, 0, none⟩ 1 1 [.int .i64 (i : Int), .int .u64 (t : Int)] hx rfl (fun j u hu => by rw [add_flat, Nat.zero_add]; exact R.cell hu) hone (by unfold maxLen; omega) (by omega) (Nat.le_trans hbase hX.size) ?_
  intro v' w' h2 h3 _
  refine h v' w' ?_ ⟨h3.os.trans hX.os, h3.tape.trans hX.tape, h3.output.trans hX.output, Nat.le_trans hX.size h3.size, fun k hk hne => (h3.block k (Nat.lt_of_lt_of_le hk hX.size) hne).trans (hX.block k hk)⟩
  unfold OwnD
  rw [dV_app, List.length_append]
  exact h2
end
theorem OwnD.extE {w w' : World} {B : Nat} {v : Value} {l : List (Nat × Nat)} (h : OwnD w B v l) (hx : Ext w w') : OwnD w' B v l := by
  refine ⟨h.1, ?_⟩
  rcases h.2 with hn | ⟨g, cap, cur, rfl, hb, hg, rest⟩
  · exact .inl hn
  · refine .inr ⟨g, cap, cur, rfl, hb, ?_, rest⟩
    rw [Below.block hx g (Array.getElem?_eq_some_iff.1 hg).1]
    exact hg
theorem rise_of {zs : List (Nat × Nat)} (h : zs.Pairwise (fun a b => a.1 ≤ b.1)) (hn : (zs.map Prod.fst).Nodup) : zs.Pairwise (fun a b => a.1 < b.1) := by
  have h2 : zs.Pairwise (fun a b => a.1 ≠ b.1) := List.pairwise_map.1 hn
  exact (h.and h2).imp fun h => by omega
theorem Pk.Later.refl' {Z : Pk} {P P' : Pl} {w : World} (h : P'.H = P.H) : Z.Later P' Z P w := ⟨rfl, rfl, rfl, Bk.Later.refl _ _, fun k hk => .inl (by
  rcases hk with hk | hk | hk | hk | ⟨i, f, hf, hk⟩
  · exact .inl hk
  · exact .inr (.inl hk)
  · exact .inr (.inr (.inl hk))
  · exact .inr (.inr (.inr (.inl hk)))
  · exact .inr (.inr (.inr (.inr ⟨i, f, by rw [← h]; exact hf, hk⟩))))⟩
/-- What Dirty tells. -/
structure DiL (P : Pl) (zs : List (Nat × Nat)) : Prop where
  rise : zs.Pairwise (fun a b => a.1 < b.1)
  mem : ∀ i s, (i, s) ∈ zs ↔ P.W i = some s ∨ (P.W i = none ∧ ∃ f, P.H i = some f ∧ f.ch = true ∧ f.since = s)
/-- What the sorting does. -/
def SortD (w : World) (v : Value) (zs : List (Nat × Nat)) (e : Ending) (w' : World) : Prop :=
  e = .returned (.tuple #[]) ∧ w.grownBy w' v.ownBlock ∧ ∃ A cc zs', v = .slice A zs'.length cc ∧ zs'.Perm zs ∧ zs'.Pairwise (fun a b => a.1 ≤ b.1) ∧ DRow w' A zs' ∧ ∀ a, A = some a → v.ownBlock = some a.block
/-- How far the first loop is. -/
structure Di1 (P : Pl) (left : Lit → Bool) (cnt C : Nat) (zs : List (Nat × Nat)) : Prop where
  nodup : (zs.map Prod.fst).Nodup
  mem : ∀ i s, (i, s) ∈ zs ↔ P.W i = some s ∧ left (ik i) = false
  cnt : zs.length + cnt ≤ C
/-- How far the second one is. -/
structure Di2 (P : Pl) (left : Lit → Bool) (cnt C : Nat) (zs : List (Nat × Nat)) : Prop where
  nodup : (zs.map Prod.fst).Nodup
  mem : ∀ i s, (i, s) ∈ zs ↔ P.W i = some s ∨ (P.W i = none ∧ (∃ f, P.H i = some f ∧ f.ch = true ∧ f.since = s) ∧ left (ik i) = false)
  cnt : zs.length + cnt ≤ C
theorem left_step (left : Lit → Bool) (i : Nat) (kl : Lit) : (left kl && !kl.sameKey (ik i)) = false ↔ left kl = false ∨ kl = ik i := by
  cases hl : left kl with
  | false => simp
  | true =>
    simp only [Bool.true_and, Bool.not_eq_false']
    constructor
    · intro h; exact .inr (WideAt.sameKey_eq h)
    · intro h
      rcases h with h | h
      · cases h
      · subst h; exact sameKey_ik.2 rfl
theorem way_val (P : Pl) : ∀ i d v y, wayM P i = some d → u64R v = some y → y.1 = d → v = .int .u64 (((P.W i).getD 0 : Nat) : Int) := fun i d v y hm hv hy => by
  unfold wayM at hm
  cases hW : P.W i with
  | none => rw [hW] at hm; cases hm
  | some s =>
    rw [hW] at hm
    have hm : DataW.lit (.int .u64 (s : Int)) = d := Option.some.inj hm
    unfold u64R at hv
    split at hv
    · injection hv with hv
      rw [← hv, ← hm] at hy
      have hy : (DataW.lit (.int .u64 _) : DataW Unit) = .lit (.int .u64 (s : Int)) := hy
      injection hy with hy
      injection hy with _ hy
      rw [hy]
      rfl
    · cases hv
section
variable {w0 w : World} {Z : Pk} {D : Dk} {L : Lg} {P : Pl}
def DiP (w0 w : World) (Z : Pk) (D : Dk) (L : Lg) (P : Pl) (e : Ending) (w' : World) : Prop := ∃ A cc zs, e = .returned (.slice A zs.length cc) ∧ DiL (settleP L P) zs ∧ PlAt w0 w' Z D L (settleP L P) ∧ Pfr Z P w w' ∧ DRow w' A zs
set_option maxRecDepth 20000 in
set_option maxHeartbeats 6400000 in
theorem dirty_any {nd : Nat} (h : PlAt w0 w Z D L P) (ok : P.Ok nd) (hm : P.m < 100000) (hsort : ∀ W B v zs, OwnD W B v zs → zs.length < 1000000 → Calls Tryz.prog 34 #[v, .func (.func 35) #[] #[]] W (SortD W v zs)) :
    Calls Tryz.prog 12 #[.pointer (some ⟨Z.q, 0, none⟩)] w (DiP w0 w Z D L P) := by
  have KSE := hide (psettle_any h)
  obtain ⟨P4, HP4⟩ : ∃ P4, Hid (settleP L P = P4) := ⟨_, hide rfl⟩
  have HIS : Hid (P4.H = P.H ∧ P4.n = P.n ∧ P4.m ≤ P.m) := hide (by
    rw [← HP4.out]
    unfold settleP
    split
    · exact ⟨rfl, rfl, Nat.zero_le _⟩
    · exact ⟨rfl, rfl, Nat.le_refl _⟩)
  have HNB : Hid (P.n < 100000 ∧ P.m < 100000) := hide ⟨by have := ok.cnt; have := ok.frames; omega, hm⟩
  have OKF : Hid (∀ i f, P4.H i = some f → f.by_.length = 504) := hide (fun i f hf => by rw [HIS.out.1] at hf; exact (ok.page i f hf).2.by_)
  rw [HP4.out] at KSE
  unfold DiP
  rw [HP4.out]
  have HSRT := hide hsort
  have HPL := hide h
  clear h ok hm hsort
  go_enter Tryz.func12, Tryz.ntmps12
  go_upto_region 5 with (go_at_call 32; (with_reducible refine KSE.out.mono ?_); rintro e w2 ⟨rfl, hp2, hf2⟩; have HP2 := hide hp2; have HF2 := hide hf2; clear hp2 hf2)
  obtain ⟨Dw, hownw, hreadw⟩ := HP2.out.way
  have HRW := hide hreadw
  have c6 := HP2.out.blk.cell (i := 6) rfl
  obtain ⟨r, HR⟩ : ∃ r, Hid (w2.heap.size = r) := ⟨_, hide rfl⟩
  obtain ⟨ob, HOB⟩ : ∃ ob, Hid (Z.ob = ob) := ⟨_, hide rfl⟩
  have HOR : Hid (ob < r) := hide (by rw [← HOB.out, ← HR.out]; exact HP2.out.way.lt)
  obtain ⟨C, HC⟩ : ∃ C, Hid (Maps.size Dw = C) := ⟨_, hide rfl⟩
  have HC5 : Hid (C = P4.m) := hide (by rw [← HC.out, hreadw.size])
  rw [HOB.out] at hownw c6
  clear hreadw
  go_wp2_with (at_range; refine wpList_range_own _ rfl _ 72 rfl 3 33 intK Tryz.underlying72 u64R ob P4.m Dw rfl hownw ?_; intro w3 hrg1 hg1 hs1; have HRG1 := hide hrg1; have HX1 := hide (Ext.of_grown hg1); have HS1 := hide hs1; clear hrg1 hg1 hs1)
  go_frame
  rw [HR.out] at HRG1 HS1 ⊢
  clear c6 hownw
  go_loopw [3] (fun v wr => ∃ (zs : List (Nat × Nat)) (left : Lit → Bool) (cnt : Nat), Hid (OwnD wr (r + 1) v zs) ∧ Hid (wr.ranges Tryz.prog 3 u64R ob r P4.m Dw left cnt) ∧ Hid (Ext w2 wr) ∧ Hid (Di1 P4 left cnt C zs)) (fun _ wr => wr.rangeLeft ob r)
  case atStart =>
    refine ⟨[], _, _, hide (World.ownsRow_nil _ _ _ _), HRG1, HX1, hide ⟨by simp, fun i s => ⟨fun h => absurd h List.not_mem_nil, fun ⟨h, hl⟩ => ?_⟩, by rw [HC.out]; exact Nat.le_of_eq (Nat.zero_add _)⟩⟩
    have h1 := HRW.out.has i
    rw [hl] at h1
    have h2 : (wayM P4 i).isSome = true := by unfold wayM; rw [h]; rfl
    rw [h2] at h1
    cases h1
  case round =>
    obtain ⟨zs, left, cnt, HO, HRG, HX, HI⟩ := hrel
    have HSZ : Hid (r + 1 ≤ wr.heap.size) := hide HRG.out.lt
    have HZL : Hid (zs.length ≤ P4.m) := hide (by have := HI.out.cnt; have := HC5.out; omega)
    go_wp2_with (first
      | (at_next; refine wpList_next_map _ rfl (.tmp 18) rfl u64R ob r P4.m Dw (wayM P4) P4.m HRW.out (fun i => .int .u64 (((P4.W i).getD 0 : Nat) : Int)) (way_val P4) left cnt rfl HRG.out ?_ ?_)
      | go_in)
    · intro _ hl0
      have HALL : Hid (∀ i s, (i, s) ∈ zs ↔ P4.W i = some s) := hide (fun i s => ⟨fun h => ((HI.out.mem i s).1 h).1, fun h => (HI.out.mem i s).2 ⟨h, hl0 _⟩⟩)
      clear hl0
      have HP3 := hide (HP2.out.ext_ HX.out)
      obtain ⟨Dh, hownh, hreadh⟩ := HP3.out.held
      have HRH := hide hreadh
      have c5 := HP3.out.blk.cell (i := 5) rfl
      obtain ⟨r2, HR2⟩ : ∃ r2, Hid (wr.heap.size = r2) := ⟨_, hide rfl⟩
      have HR2L : Hid (r + 1 ≤ r2) := hide (by rw [← HR2.out]; exact HSZ.out)
      obtain ⟨hb, HHB⟩ : ∃ hb, Hid (Z.hb = hb) := ⟨_, hide rfl⟩
      have HHR : Hid (hb < r2) := hide (by rw [← HHB.out, ← HR2.out]; exact HP3.out.held.lt)
      obtain ⟨C2, HC2⟩ : ∃ C2, Hid (Maps.size Dh = C2) := ⟨_, hide rfl⟩
      have HC6 : Hid (C2 = P4.n) := hide (by rw [← HC2.out, hreadh.size])
      rw [HHB.out] at hownh c5
      clear hreadh
      go_wp2_with (at_range; refine wpList_range_own _ rfl _ 71 rfl 3 81 intK Tryz.underlying71 ptrR hb P4.n Dh rfl hownh ?_; intro w5 hrg5 hg5 hs5; have HRG5 := hide hrg5; have HX5 := hide (Ext.of_grown hg5); have HS5 := hide hs5; clear hrg5 hg5 hs5)
      go_frame
      rw [HR2.out] at HRG5 HS5 ⊢
      clear c5 hownh
      go_loopw [3] (fun v wr2 => ∃ (zs2 : List (Nat × Nat)) (left2 : Lit → Bool) (cnt2 : Nat), Hid (OwnD wr2 (r + 1) v zs2) ∧ Hid (v.ownBlock ≠ some r2) ∧ Hid (wr2.ranges Tryz.prog 3 ptrR hb r2 P4.n Dh left2 cnt2) ∧ Hid (Ext w2 wr2) ∧ Hid (Di2 P4 left2 cnt2 (C + C2) zs2)) (fun _ wr2 => wr2.rangeLeft hb r2)
      case atStart =>
        refine ⟨zs, _, _, hide (OwnD.extE HO.out HX5.out), hide (fun e => by have := (World.ownsRow.lt HO.out _ e).2; have := HR2.out; omega), HRG5, hide (HX.out.trans HX5.out), hide ⟨HI.out.nodup, fun i s => ?_, ?_⟩⟩
        · rw [HALL.out]
          constructor
          · exact fun h => .inl h
          · rintro (h | ⟨-, ⟨f, hf, -⟩, hl⟩)
            · exact h
            · have h1 := HRH.out.has i
              rw [hl] at h1
              have h2 : (heldM Z P4 i).isSome = true := by unfold heldM; rw [hf]; rfl
              rw [h2] at h1
              cases h1
        · have := HI.out.cnt
          rw [HC2.out]
          omega
      case round =>
        obtain ⟨zs2, left2, cnt2, HO2, HNE2, HRG2, HX2, HI2⟩ := hrel
        have HSZ2 : Hid (r + 1 ≤ wr.heap.size) := hide (by have := HRG2.out.lt; have := HR2L.out; omega)
        have HZ2 : Hid (zs2.length < 1000000) := hide (by have := HI2.out.cnt; have := HC5.out; have := HC6.out; have := HIS.out.2; have := HNB.out; omega)
        go_wp2_with (first
          | (at_next; refine wpList_next_map _ rfl (.tmp 34) rfl ptrR hb r2 P4.n Dh (heldM Z P4) P4.n HRH.out (fun i => .pointer (some ⟨Z.fb i, 0, none⟩)) (ptr_val Z P4) left2 cnt2 rfl HRG2.out ?_ ?_)
          | go_in)
        · intro _ hl0
          have HL0 := hide hl0
          clear hl0
          have KSO := hide (HSRT.out wr (r + 1) _ zs2 HO2.out HZ2.out)
          go_wp2_with (go_at_call 34; (with_reducible refine KSO.out.mono ?_); rintro e w6 ⟨rfl, hg6, A, cc, zs', hv6, hpm, hso, hdr, hA⟩; have HG6 := hide hg6; have HV6 := hide hv6; have HPM := hide hpm; have HSO := hide hso; have HDR := hide hdr; clear hg6 hv6 hpm hso hdr hA)
          go_ret
          have hlt : ∀ k, Value.ownBlock _ = some k → _ := World.ownsRow.lt HO2.out
          have hx6 : Ext w2 w6 := ⟨HG6.out.os.trans HX2.out.os, HG6.out.tape.trans HX2.out.tape, HG6.out.output.trans HX2.out.output, Nat.le_trans HX2.out.size HG6.out.size, fun k hk => (HG6.out.block k (Nat.lt_of_lt_of_le hk HX2.out.size) fun e => by
            have := (hlt k e.symm).1
            have := HR.out
            omega).trans (Below.block HX2.out k hk)⟩
          refine ⟨A, cc, zs', by rw [HV6.out]; rfl, ⟨?_, fun i s => ?_⟩, HP2.out.ext_ hx6, HF2.out.trans (Pfr.ext hx6) (Pk.Later.refl' HIS.out.1), HDR.out⟩
          · have hnd : (zs'.map Prod.fst).Nodup := (HPM.out.map Prod.fst).nodup_iff.2 HI2.out.nodup
            exact rise_of HSO.out hnd
          · rw [HPM.out.mem_iff, HI2.out.mem]
            constructor
            · rintro (h | ⟨h1, h2, -⟩)
              · exact .inl h
              · exact .inr ⟨h1, h2⟩
            · rintro (h | ⟨h1, h2⟩)
              · exact .inl h
              · exact .inr ⟨h1, h2, HL0.out _⟩
        · intro i w6 cnt6 hsm hi5 hlk hrg6 hlt hgr hsz hen
          obtain ⟨f, hf⟩ : ∃ f, P4.H i = some f := by
            unfold heldM at hsm
            cases hq : P4.H i with
            | none => rw [hq] at hsm; cases hsm
            | some f => exact ⟨f, rfl⟩
          have HF := hide hf
          have HX6 : Hid (Ext w2 w6) := hide (HX2.out.grown hgr (by have := HR2L.out; have := HR.out; omega))
          have HRG6 := hide hrg6
          have HLT := hide hlt
          have HLK := hide hlk
          have HSZ6 : Hid (r + 1 ≤ w6.heap.size) := hide (by have := hrg6.lt; have := HR2L.out; omega)
          have HO6 : Hid (OwnD w6 (r + 1) _ zs2) := hide (by
            unfold OwnD
            exact HO2.out.kept hgr (.inr (fun e => HNE2.out e)))
          have H6 := hide (HP2.out.ext_ HX6.out)
          have f5 := OKF.out i f hf
          obtain ⟨-, -, g6, g7, -⟩ := fr_get f5
          have k6 := (H6.out.fr i f hf).cell g6
          have k7 := (H6.out.fr i f hf).cell g7
          have c6 := H6.out.blk.cell (i := 6) rfl
          obtain ⟨v8, ps8, hlk8, hv8⟩ := H6.out.way.look_ok (t := 72) (e := 33) Tryz.underlying72 (z := .int .u64 0) (by kernel_rfl) (zd := .lit (.int .u64 0)) (zp := []) rfl i hi5
          clear hv8 hsm hi5 hlk hrg6 hlt hgr hsz f5 g6 g7 hf
          have HS := hide (left_step left2 i)
          have hlt0 : ∀ k, Value.ownBlock _ = some k → _ := World.ownsRow.lt HO6.out
          obtain ⟨chv, HCH⟩ : ∃ chv, Hid (f.ch = chv) := ⟨_, hide rfl⟩
          rw [HCH.out] at k6
          have HSTAY : ∀ (hno : ∀ t, ¬ (P4.W i = none ∧ ∃ g, P4.H i = some g ∧ g.ch = true ∧ g.since = t)), Di2 P4 (fun z => left2 z && !z.sameKey (ik i)) cnt6 (C + C2) zs2 := fun hno => by
            refine ⟨HI2.out.nodup, fun j s => ?_, by have := HI2.out.cnt; have := HLT.out; omega⟩
            rw [HI2.out.mem, HS.out]
            constructor
            · rintro (h | ⟨h1, h2, h3⟩)
              · exact .inl h
              · exact .inr ⟨h1, h2, .inl h3⟩
            · rintro (h | ⟨h1, h2, h3 | h3⟩)
              · exact .inl h
              · exact .inr ⟨h1, h2, h3⟩
              · obtain rfl := ik_inj h3
                exact absurd ⟨h1, h2⟩ (hno s)
          have HST := hide HSTAY
          clear HSTAY
          cases hW : P4.W i with
          | some sv =>
            have hsm : (wayM P4 i).isSome = true := by unfold wayM; rw [hW]; rfl
            rw [hsm] at hlk8
            have HWN : Hid (∀ t, ¬ (P4.W i = none ∧ ∃ g, P4.H i = some g ∧ g.ch = true ∧ g.since = t)) := hide (fun t h => by rw [hW] at h; cases h.1)
            clear hW hsm
            cases chv with
            | true =>
              go_wp2
              refine ⟨⟨zs2, _, cnt6, HO6, HNE2, HRG6, HX6, hide (HST.out HWN.out)⟩, ?_⟩
              rw [HRG6.out.left_eq, HRG2.out.left_eq]; exact HLT.out
            | false =>
              go_wp2
              refine ⟨⟨zs2, _, cnt6, HO6, HNE2, HRG6, HX6, hide (HST.out HWN.out)⟩, ?_⟩
              rw [HRG6.out.left_eq, HRG2.out.left_eq]; exact HLT.out
          | none =>
            have hsm : (wayM P4 i).isSome = false := by unfold wayM; rw [hW]; rfl
            rw [hsm] at hlk8
            have HWN := hide hW
            clear hW hsm
            cases chv with
            | false =>
              go_wp2
              refine ⟨⟨zs2, _, cnt6, HO6, HNE2, HRG6, HX6, hide (HST.out fun t h => ?_)⟩, ?_⟩
              · obtain ⟨-, g, hg, hc, -⟩ := h
                rw [HF.out] at hg
                injection hg with hg
                rw [← hg, HCH.out] at hc
                cases hc
              · rw [HRG6.out.left_eq, HRG2.out.left_eq]; exact HLT.out
            | true =>
              have HZ6 : Hid (zs2.length < 1000000) := HZ2
              have HNI : Hid (∀ t, (i, t) ∉ zs2) := hide (fun t h => by
                rcases (HI2.out.mem i t).1 h with h1 | ⟨-, -, h1⟩
                · rw [HWN.out] at h1; cases h1
                · rw [HLK.out] at h1; cases h1)
              go_wp2_with (at_builtin; refine wpList_pushD rfl (.tmp 57) (.tmp 64) rfl (r + 1) _ zs2 i f.since rfl rfl HO6.out HSZ6.out HZ6.out ?_; intro v9 w9 hown9 hgrow9; have HO9 := hide hown9; have HG9 := hide hgrow9; clear hown9 hgrow9)
              have hrg9 := HRG6.out.kept HG9.out (fun e => by have h1 := (hlt0 _ e.symm).1; have h2 := HP2.out.held.lt; have h3 := HHB.out; have h4 := HR.out; omega) (fun e => HNE2.out e.symm)
              refine ⟨⟨zs2 ++ [(i, f.since)], _, cnt6, HO9, hide ?_, hide hrg9, hide ?_, hide ⟨?_, fun j t => ?_, ?_⟩⟩, ?_⟩
              · intro e
                obtain ⟨es, ck, si, se, c0, -, -, -, -, hit, -⟩ := hrg9
                rcases HO9.out.2 with ⟨hv, -⟩ | ⟨g9, cap9, cur9, hv, -, hg9, -⟩
                · rw [hv] at e; cases e
                · rw [hv] at e
                  have e : g9 = r2 := by simpa [Value.ownBlock] using e
                  rw [e, hit] at hg9
                  injection hg9 with hg9
                  cases hg9
              · refine ⟨HG9.out.os.trans HX6.out.os, HG9.out.tape.trans HX6.out.tape, HG9.out.output.trans HX6.out.output, Nat.le_trans HX6.out.size HG9.out.size, fun k hk => (HG9.out.block k (Nat.lt_of_lt_of_le hk HX6.out.size) fun e => ?_).trans (Below.block HX6.out k hk)⟩
                have := (hlt0 k e.symm).1
                have := HR.out
                omega
              · rw [List.map_append, List.nodup_append]
                refine ⟨HI2.out.nodup, by simp, fun a ha b hb => ?_⟩
                simp only [List.map_cons, List.map_nil, List.mem_singleton] at hb
                intro e
                obtain ⟨q, hq, e2⟩ := List.mem_map.1 ha
                have e3 : q = (i, q.2) := Prod.ext (by rw [e2, e, hb]) rfl
                rw [e3] at hq
                exact HNI.out _ hq
              · rw [List.mem_append, List.mem_singleton, HI2.out.mem, HS.out]
                constructor
                · rintro ((h | ⟨h1, h2, h3⟩) | h)
                  · exact .inl h
                  · exact .inr ⟨h1, h2, .inl h3⟩
                  · injection h with h1 h2
                    subst h1 h2
                    exact .inr ⟨HWN.out, ⟨f, HF.out, HCH.out, rfl⟩, .inr rfl⟩
                · rintro (h | ⟨h1, h2, h3 | h3⟩)
                  · exact .inl (.inl h)
                  · exact .inl (.inr ⟨h1, h2, h3⟩)
                  · obtain rfl := ik_inj h3
                    obtain ⟨g, hg, hc, hs⟩ := h2
                    rw [HF.out] at hg
                    injection hg with hg
                    exact .inr (by rw [← hs, ← hg])
              · rw [List.length_append]
                have := HI2.out.cnt
                have := HLT.out
                show zs2.length + 1 + cnt6 ≤ C + C2
                omega
              · rw [hrg9.left_eq, HRG2.out.left_eq]; exact HLT.out
    · intro i w4 cnt2 hsm hi5 hlk hrg2 hlt hgr hsz hen
      obtain ⟨s, hs⟩ : ∃ s, P4.W i = some s := by
        unfold wayM at hsm
        cases hq : P4.W i with
        | none => rw [hq] at hsm; cases hsm
        | some s => exact ⟨s, rfl⟩
      have HSV : Hid ((P4.W i).getD 0 = s) := hide (by rw [hs]; rfl)
      rw [HSV.out] at hen ⊢
      have HS := hide hs
      have HX4 : Hid (Ext w2 w4) := hide (HX.out.grown hgr (Nat.le_of_eq HR.out))
      have HRG4 := hide hrg2
      have HLT := hide hlt
      have HLK := hide hlk
      have HSZ4 : Hid (r + 1 ≤ w4.heap.size) := hide hrg2.lt
      have HO4 : Hid (OwnD w4 (r + 1) _ zs) := hide (by
        unfold OwnD
        exact HO.out.kept hgr (by
          refine .inr fun e => ?_
          have h1 := (World.ownsRow.lt HO.out _ e).1
          omega))
      have HZ6 : Hid (zs.length < 1000000) := hide (by have := HZL.out; have := HIS.out.2.2; have := HNB.out; omega)
      clear hsm hi5 hlk hrg2 hlt hgr hsz hs
      have HNI : Hid (∀ t, (i, t) ∉ zs) := hide (fun t h => by
        have h1 := ((HI.out.mem i t).1 h).2
        rw [HLK.out] at h1
        cases h1)
      go_wp2_with (at_builtin; refine wpList_pushD rfl (.tmp 24) (.tmp 28) rfl (r + 1) _ zs i s rfl rfl HO4.out HSZ4.out HZ6.out ?_; intro v5 w5 hown5 hgrow5; have HO5 := hide hown5; have HG5 := hide hgrow5; clear hown5 hgrow5)
      have hlt2 : ∀ k, Value.ownBlock _ = some k → _ := World.ownsRow.lt HO4.out
      have hrg5 := HRG4.out.kept HG5.out (fun e => by have := (hlt2 _ e.symm).1; have := HOR.out; omega) (fun e => by have := (hlt2 _ e.symm).1; omega)
      refine ⟨⟨zs ++ [(i, s)], _, cnt2, HO5, hide hrg5, hide ?_, hide ⟨?_, fun j t => ?_, ?_⟩⟩, ?_⟩
      · refine ⟨HG5.out.os.trans HX4.out.os, HG5.out.tape.trans HX4.out.tape, HG5.out.output.trans HX4.out.output, Nat.le_trans HX4.out.size HG5.out.size, fun k hk => (HG5.out.block k (Nat.lt_of_lt_of_le hk HX4.out.size) fun e => ?_).trans (Below.block HX4.out k hk)⟩
        have := (hlt2 k e.symm).1
        have := HR.out
        omega
      · rw [List.map_append, List.nodup_append]
        refine ⟨HI.out.nodup, by simp, fun a ha b hb => ?_⟩
        simp only [List.map_cons, List.map_nil, List.mem_singleton] at hb
        intro e
        obtain ⟨q, hq, e2⟩ := List.mem_map.1 ha
        have e3 : q = (i, q.2) := Prod.ext (by rw [e2, e, hb]) rfl
        rw [e3] at hq
        exact HNI.out _ hq
      · rw [List.mem_append, List.mem_singleton, HI.out.mem, left_step]
        constructor
        · rintro (h | h)
          · exact ⟨h.1, .inl h.2⟩
          · injection h with h1 h2
            subst h1 h2
            exact ⟨HS.out, .inr rfl⟩
        · rintro ⟨h1, h2 | h2⟩
          · exact .inl ⟨h1, h2⟩
          · obtain rfl := ik_inj h2
            rw [HS.out] at h1
            injection h1 with h1
            exact .inr (by rw [h1])
      · rw [List.length_append]
        have := HI.out.cnt
        have := HLT.out
        show zs.length + 1 + cnt2 ≤ C
        omega
      · rw [hrg5.left_eq, HRG.out.left_eq]; exact HLT.out
end
end Go.Proofs.YtnkcneccolbbdaaGreatDoor
