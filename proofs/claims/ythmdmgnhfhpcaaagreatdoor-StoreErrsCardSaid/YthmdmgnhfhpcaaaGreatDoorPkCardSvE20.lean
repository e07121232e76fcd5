/-
  What the card wants, part 20: SvE4.
-/
import Derived.Test.YthmdmgnhfhpcaaaGreatDoorPkCardSvE15
set_option linter.unusedVariables false
set_option linter.unusedSimpArgs false
set_option maxRecDepth 20000
set_option maxHeartbeats 12800000
namespace Go.Proofs.YthmdmgnhfhpcaaaGreatDoor
open Go.RowKit
section
variable {w:World}
theorem serrs_4 (N:Nat) (c fr i:Int) (A:Option Addr) (m cb:Nat) (ge he:Int) (K:ErK w N c fr i A m cb 0 1 ge he) (hn:1≤N∧N≤120) (HI3:(i < 0∧ge=1)∨(¬i < 0∧i > 1∧ge=1)∨(¬i < 0∧¬i > 1∧ge=0)) (HM3:(((m:Int) !=504)=false∧he=0)∨(((m:Int) !=504)=true∧he=3)) (hr:16≤c∧c≤(N:Int) - 2∧64 < fr):
  Calls Tryz.prog 3 #[.int .i64 (N:Int), .int .i64 c, .int .i64 fr, .int .i64 i, .slice A m cb] w (Ret w (Is (.bool true))):=by
 have HR:=hide hr
 have HN:=hide hn
 have KA:=hide K.aw
 have KN:=hide K.nw
 have KF:=hide K.fo
 have KO:=hide K.op
 have KFr:=hide K.fs
 have KB:=hide K.bg
 have KRd:=hide K.rd
 have KW0:=hide K.wa
 have KW1:=hide K.wb
 have HMW:Hid (∀W:World,(Instr.makeSlice 22 (.int .i64 504) (.int .i64 504)).run Tryz.prog W= .ok (.slice (some ⟨W.heap.size,0,none⟩) 504 504) (mkW 504 W)):=hide (fun W=>mkW_run 504 (by decide) W)
 obtain ⟨ni,HNI⟩:∃ni:Int,Hid ((N:Int)=ni):=⟨_,hide rfl⟩
 obtain ⟨n2,HN2⟩:∃n2:Int,Hid ((N:Int) - 2=n2):=⟨_,hide rfl⟩
 have n0:¬ni < 1:=by have:=HNI.out;omega
 have n120:¬ni > 120:=by have:=HNI.out;omega
 have hsw:IntKind.i64.wrap (ni - 2)=n2:=by rw [IntKind.wrap_i64];have:=HNI.out;have:=HN2.out;omega
 rw [HNI.out] at KN ⊢
 have q1:¬c < 16:=by have:=HR.out;omega
 have q2:¬c > n2:=by have:=HR.out;have:=HN2.out;omega
 have q3:¬fr < 1:=by have:=HR.out;omega
 have q4:fr > 64:=by have:=HR.out;omega
 clear hr hn K
 rcases HI3 with ⟨i1,rfl⟩ | ⟨i1,i2,rfl⟩ | ⟨i1,i2,rfl⟩ <;> rcases HM3 with ⟨m1,rfl⟩ | ⟨m1,rfl⟩
 all_goals
  go_enter Tryz.func3,Tryz.ntmps3
  go_upto_region 3 with (go_at_call 5;(with_reducible refine KA.out.mono ?_);rintro e w1 ⟨rfl,hx1⟩;have HX1:=hide hx1;clear hx1)
  go_upto_region 9 with (first
   | (go_at_call 6;(with_reducible refine (KN.out w1).mono ?_);rintro e w2 ⟨g,gd,gn,rfl,hd2,hx2⟩;have HD2:=hide hd2;have HX2:=hide hx2;clear hd2 hx2)
   | (go_at_call 7;(with_reducible refine (KF.out w1 w2 g gd gn HX1.out HX2.out HD2.out).mono ?_);rintro e w3 ⟨rfl,hf3⟩;have HF3:=hide hf3;clear hf3)
   | (go_at_call 8;(with_reducible refine (KO.out w1 w3 g HX1.out HF3.out).mono ?_);rintro e w4 ⟨v4,rfl,hx4⟩;have HX4:Hid (Ext w w4):=hide (HX1.out.trans hx4);clear hx4))
  go_upto_region 16 with (first
   | (go_at_call 9;(with_reducible refine (KFr.out w4 HX4.out).mono ?_);rintro e w5 ⟨g5,s5,rfl,h5⟩;have H5:=hide h5;clear h5)
   | (go_at_call 10;(with_reducible refine (KB.out w4 w5 s5 HX4.out H5.out).mono ?_);rintro e w6 ⟨rfl,h6⟩;have H6:=hide h6;clear h6)
   | (go_at_call 11;(with_reducible refine (KRd.out w4 w6 s5 HX4.out H6.out).mono ?_);rintro e w7 ⟨v7,rfl,h7⟩;have H7:=hide h7;clear h7)
   | ((with_reducible show wpList _ _ _ (⟨some 101,_,_,_,_,_⟩::_) _ _);refine wpList_gives (gives_make rfl rfl rfl (HMW.out _) ⟨rfl,rfl⟩) rfl ?_)
   | (go_at_call 12;(with_reducible refine (KW1.out w4 w8 s5 HX4.out H8.out).mono ?_);rintro e w9 ⟨rfl,h9⟩;have H9:=hide h9;clear h9)
   | (go_at_call 12;(with_reducible refine (KW0.out w4 w7 s5 HX4.out H7.out).mono ?_);rintro e w8 ⟨rfl,h8⟩;have H8:=hide h8;clear h8))
  clear KA KN KF KO KFr KB KRd KW0 KW1 HMW
  go_wp2_with (first
   | (go_at_call 10;(with_reducible refine (sbegin_nil _).mono ?_);rintro e wz ⟨rfl,hz⟩;subst hz)
   | (go_at_call 11;(with_reducible refine (sread_nil _ _).mono ?_);rintro e wz ⟨rfl,hz⟩;subst hz)
   | (go_at_call 8;(with_reducible refine (sopen_nil _ _ _).mono ?_);rintro e wz ⟨rfl,hz⟩;subst hz)
   | (go_at_call 7;(with_reducible refine (sformat_nil _ _).mono ?_);rintro e wz ⟨rfl,hz⟩;subst hz)
   | (go_at_call 12;(with_reducible refine (swrite_nil _ _ _ _ _).mono ?_);rintro e wz ⟨rfl,hz⟩;subst hz)
   | (go_at_call 13;(with_reducible refine (scommit_nil _).mono ?_);rintro e wz ⟨rfl,hz⟩;subst hz)
   | (go_at_call 14;(with_reducible refine (sabort_nil _).mono ?_);rintro e wz ⟨rfl,hz⟩;subst hz)
   | (go_at_call 15;(with_reducible refine (scheck_nil _).mono ?_);rintro e wz ⟨rfl,hz⟩;subst hz)
   | (go_at_call 16;(with_reducible refine (sflush_nil _).mono ?_);rintro e wz ⟨rfl,hz⟩;subst hz)
   | (go_at_call 17;(with_reducible refine (spages_nil _).mono ?_);rintro e wz ⟨rfl,hz⟩;subst hz)
   | (go_at_call 18;(with_reducible refine (sroom_nil _).mono ?_);rintro e wz ⟨rfl,hz⟩;subst hz)
   | (go_at_call 19;(with_reducible refine (sintx_nil _).mono ?_);rintro e wz ⟨rfl,hz⟩;subst hz))
  go_ret
  exact Ret.mk (HX4.out.trans H9.out.ext) rfl
end
end Go.Proofs.YthmdmgnhfhpcaaaGreatDoor
