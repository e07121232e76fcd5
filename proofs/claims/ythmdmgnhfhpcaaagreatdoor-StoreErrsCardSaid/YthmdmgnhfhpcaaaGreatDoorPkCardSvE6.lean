/-
  What the card wants, part 6: RcG, RcN, RcC, RcE0, RcE1, RcE2, RcE3, RcE4, RcE5.
-/
import Derived.Test.YthmdmgnhfhpcaaaGreatDoorPkCardSvE0
import Derived.Test.YthmdmgnhfhpcaaaGreatDoorPkCardSvE5
set_option linter.unusedVariables false
set_option linter.unusedSimpArgs false
set_option maxRecDepth 20000
set_option maxHeartbeats 12800000
namespace Go.Proofs.YthmdmgnhfhpcaaaGreatDoor
open Go.RowKit
def formN (k pv pg off nx:Int) (na nb nd:Nat) (L:List (Int×Int)) (op:Bool):Bool:=hok k && ((hpv k || (pv==0)) && ((hnx k || (nx==0)) && (chgN pg off na nb (hch k) (hbf k) && chkN L nd op (hck k))))
theorem form_any (k tx pv pg off nx:Int) (A B D:Option Addr) (nb a na b' nd d:Nat) (op:Bool) (w:World) (L:List (Int×Int)) (hr:RdD w D L) (hn:L.length=nd) (hnd:nd≤140737488351232) (hna:na≤140737488351232) (hnb:nb≤140737488351232) (ho: -9223372036854775808≤off) (ho2:off < 9223372036854775808):
  Calls Tryz.prog 121 #[.agg #[.int .u8 k, .int .u64 tx, .int .u64 pv, .int .i64 pg, .int .i64 off, .slice A nb a, .slice B na b', .int .u64 nx, .slice D nd d, .bool op]] w (RetB w (formN k pv pg off nx na nb nd L op)):=by
 obtain ⟨o,HO⟩:∃o,Hid (hok k=o):=⟨_,hide rfl⟩
 obtain ⟨p,HP⟩:∃o,Hid (hpv k=o):=⟨_,hide rfl⟩
 obtain ⟨c,HC⟩:∃o,Hid (hch k=o):=⟨_,hide rfl⟩
 obtain ⟨b,HB⟩:∃o,Hid (hbf k=o):=⟨_,hide rfl⟩
 obtain ⟨n,HN⟩:∃o,Hid (hnx k=o):=⟨_,hide rfl⟩
 obtain ⟨x,HX⟩:∃o,Hid (hck k=o):=⟨_,hide rfl⟩
 obtain ⟨g1,HG1⟩:∃g,Hid (chgN pg off na nb c b=g):=⟨_,hide rfl⟩
 obtain ⟨g2,HG2⟩:∃g,Hid (chkN L nd op x=g):=⟨_,hide rfl⟩
 have HV:formN k pv pg off nx na nb nd L op=(o && ((p || (pv==0)) && ((n || (nx==0)) && (g1 && g2)))):=by
  simp only [formN,HO.out,HP.out,HC.out,HB.out,HN.out,HX.out,HG1.out,HG2.out]
 rw [HV]
 have KP:=hide (fun (W:World)=>(show Calls Tryz.prog 122 #[.int .u8 k] W (fun e w' =>e= .returned (.tuple #[.agg #[.bool p, .bool c, .bool b, .bool n, .bool x], .bool o])∧Ext W w') from by have h:=partsOf_any k W;unfold PartsP at h;rw [HO.out,HP.out,HC.out,HB.out,HN.out,HX.out] at h;exact h))
 have KC:=hide (fun (W:World)=>(show Calls Tryz.prog 136 #[.agg #[.int .u8 k, .int .u64 tx, .int .u64 pv, .int .i64 pg, .int .i64 off, .slice A nb a, .slice B na b', .int .u64 nx, .slice D nd d, .bool op], .agg #[.bool p, .bool c, .bool b, .bool n, .bool x]] W (RetB W g1) from by have h:=changeFits_any k tx pv pg off nx A B D nb a na b' nd d op p c b n x W hna hnb ho ho2;rw [HG1.out] at h;exact h))
 have KK:=hide (fun (W:World) (hW:Ext w W)=>(show Calls Tryz.prog 137 #[.agg #[.int .u8 k, .int .u64 tx, .int .u64 pv, .int .i64 pg, .int .i64 off, .slice A nb a, .slice B na b', .int .u64 nx, .slice D nd d, .bool op], .agg #[.bool p, .bool c, .bool b, .bool n, .bool x]] W (RetB W g2) from by have h:=checkFits_any k tx pv pg off nx A B D nb a na b' nd d op p c b n x W L (hr.ext hW) hn hnd;rw [HG2.out] at h;exact h))
 clear hr hn hnd hna hnb ho ho2 HV HO HP HC HB HN HX HG1 HG2
 go_enter Tryz.func121,Tryz.ntmps121
 go_upto_region 1 with fail
 obtain ⟨W1,hX1,hR1,hg⟩:∃W1,Ext w W1∧Rw W1 w.heap.size 95 [.int .u8 k, .int .u64 tx, .int .u64 pv, .int .i64 pg, .int .i64 off, .slice A nb a, .slice B na b', .int .u64 nx, .slice D nd d, .bool op]∧w.alloc (.cells #[.int .u8 k, .int .u64 tx, .int .u64 pv, .int .i64 pg, .int .i64 off, .slice A nb a, .slice B na b', .int .u64 nx, .slice D nd d, .bool op] 95)=W1:=⟨_,Ext.alloc _ _,Rw.new _ _ _,rfl⟩
 rw [hg]
 obtain ⟨hb,HHB⟩:∃hb,Hid (w.heap.size=hb):=⟨_,hide rfl⟩
 rw [HHB.out] at hR1 ⊢
 have X1:=hide hX1
 have R1:=hide hR1
 have y0:=R1.out.cell (i:=0) rfl
 clear hg hX1 hR1
 go_upto_region 2 with (go_at_call 122;(with_reducible refine (KP.out _).mono ?_);rintro e w2 ⟨rfl,hx2⟩;have X2:=hide (X1.out.trans hx2);have R2:=hide (R1.out.ext hx2);clear hx2)
 clear y0
 obtain ⟨W3,hX3,hR3,hE3,hg⟩:∃W3,Ext w W3∧Rw W3 w2.heap.size 162 [.bool p, .bool c, .bool b, .bool n, .bool x]∧Ext w2 W3∧w2.alloc (.cells #[.bool p, .bool c, .bool b, .bool n, .bool x] 162)=W3:=⟨_,X2.out.trans (Ext.alloc _ _),Rw.new _ _ _,Ext.alloc _ _,rfl⟩
 rw [hg]
 obtain ⟨hq,HHQ⟩:∃hq,Hid (w2.heap.size=hq):=⟨_,hide rfl⟩
 rw [HHQ.out] at hR3 ⊢
 have X3:=hide hX3
 have R3:=hide (R2.out.ext hE3)
 have Q3:=hide hR3
 clear hg hX3 hR3 hE3 X1 X2 R1 R2 HHB HHQ KP
 have c0:=R3.out.cell (i:=0) rfl
 have c1:=R3.out.cell (i:=1) rfl
 have c2:=R3.out.cell (i:=2) rfl
 have c3:=R3.out.cell (i:=3) rfl
 have c4:=R3.out.cell (i:=4) rfl
 have c5:=R3.out.cell (i:=5) rfl
 have c6:=R3.out.cell (i:=6) rfl
 have c7:=R3.out.cell (i:=7) rfl
 have c8:=R3.out.cell (i:=8) rfl
 have c9:=R3.out.cell (i:=9) rfl
 have q0:=Q3.out.cell (i:=0) rfl
 have q1:=Q3.out.cell (i:=1) rfl
 have q2:=Q3.out.cell (i:=2) rfl
 have q3:=Q3.out.cell (i:=3) rfl
 have q4:=Q3.out.cell (i:=4) rfl
 cases o with
 | false=>
  go_wp2_with (first
   | (go_at_call 136;(with_reducible refine (KC.out _).mono ?_);rintro e w4 ⟨rfl,hx4⟩;have X4:=hide (X3.out.trans hx4);have d0:=(R3.out.ext hx4).cell (i:=0) rfl;have d1:=(R3.out.ext hx4).cell (i:=1) rfl;have d2:=(R3.out.ext hx4).cell (i:=2) rfl;have d3:=(R3.out.ext hx4).cell (i:=3) rfl;have d4:=(R3.out.ext hx4).cell (i:=4) rfl;have d5:=(R3.out.ext hx4).cell (i:=5) rfl;have d6:=(R3.out.ext hx4).cell (i:=6) rfl;have d7:=(R3.out.ext hx4).cell (i:=7) rfl;have d8:=(R3.out.ext hx4).cell (i:=8) rfl;have d9:=(R3.out.ext hx4).cell (i:=9) rfl;have r0:=(Q3.out.ext hx4).cell (i:=0) rfl;have r1:=(Q3.out.ext hx4).cell (i:=1) rfl;have r2:=(Q3.out.ext hx4).cell (i:=2) rfl;have r3:=(Q3.out.ext hx4).cell (i:=3) rfl;have r4:=(Q3.out.ext hx4).cell (i:=4) rfl;clear hx4)
   | (go_at_call 137;(with_reducible refine (KK.out _ X4.out).mono ?_);rintro e w5 ⟨rfl,hx5⟩;have X5:=hide (X4.out.trans hx5);clear hx5))
  go_ret
  exact ⟨rfl,X3.out⟩
 | true=>
  cases p with
  | true=>
   cases n with
   | true=>
    cases g1 with
    | false=>
     go_wp2_with (first
      | (go_at_call 136;(with_reducible refine (KC.out _).mono ?_);rintro e w4 ⟨rfl,hx4⟩;have X4:=hide (X3.out.trans hx4);have d0:=(R3.out.ext hx4).cell (i:=0) rfl;have d1:=(R3.out.ext hx4).cell (i:=1) rfl;have d2:=(R3.out.ext hx4).cell (i:=2) rfl;have d3:=(R3.out.ext hx4).cell (i:=3) rfl;have d4:=(R3.out.ext hx4).cell (i:=4) rfl;have d5:=(R3.out.ext hx4).cell (i:=5) rfl;have d6:=(R3.out.ext hx4).cell (i:=6) rfl;have d7:=(R3.out.ext hx4).cell (i:=7) rfl;have d8:=(R3.out.ext hx4).cell (i:=8) rfl;have d9:=(R3.out.ext hx4).cell (i:=9) rfl;have r0:=(Q3.out.ext hx4).cell (i:=0) rfl;have r1:=(Q3.out.ext hx4).cell (i:=1) rfl;have r2:=(Q3.out.ext hx4).cell (i:=2) rfl;have r3:=(Q3.out.ext hx4).cell (i:=3) rfl;have r4:=(Q3.out.ext hx4).cell (i:=4) rfl;clear hx4)
      | (go_at_call 137;(with_reducible refine (KK.out _ X4.out).mono ?_);rintro e w5 ⟨rfl,hx5⟩;have X5:=hide (X4.out.trans hx5);clear hx5))
     go_ret
     exact ⟨rfl,X4.out⟩
    | true=>
     go_wp2_with (first
      | (go_at_call 136;(with_reducible refine (KC.out _).mono ?_);rintro e w4 ⟨rfl,hx4⟩;have X4:=hide (X3.out.trans hx4);have d0:=(R3.out.ext hx4).cell (i:=0) rfl;have d1:=(R3.out.ext hx4).cell (i:=1) rfl;have d2:=(R3.out.ext hx4).cell (i:=2) rfl;have d3:=(R3.out.ext hx4).cell (i:=3) rfl;have d4:=(R3.out.ext hx4).cell (i:=4) rfl;have d5:=(R3.out.ext hx4).cell (i:=5) rfl;have d6:=(R3.out.ext hx4).cell (i:=6) rfl;have d7:=(R3.out.ext hx4).cell (i:=7) rfl;have d8:=(R3.out.ext hx4).cell (i:=8) rfl;have d9:=(R3.out.ext hx4).cell (i:=9) rfl;have r0:=(Q3.out.ext hx4).cell (i:=0) rfl;have r1:=(Q3.out.ext hx4).cell (i:=1) rfl;have r2:=(Q3.out.ext hx4).cell (i:=2) rfl;have r3:=(Q3.out.ext hx4).cell (i:=3) rfl;have r4:=(Q3.out.ext hx4).cell (i:=4) rfl;clear hx4)
      | (go_at_call 137;(with_reducible refine (KK.out _ X4.out).mono ?_);rintro e w5 ⟨rfl,hx5⟩;have X5:=hide (X4.out.trans hx5);clear hx5))
     go_ret
     exact ⟨rfl,X5.out⟩
   | false=>
    by_cases hn:nx=0
    ·subst hn
     cases g1 with
     | false=>
      go_wp2_with (first
       | (go_at_call 136;(with_reducible refine (KC.out _).mono ?_);rintro e w4 ⟨rfl,hx4⟩;have X4:=hide (X3.out.trans hx4);have d0:=(R3.out.ext hx4).cell (i:=0) rfl;have d1:=(R3.out.ext hx4).cell (i:=1) rfl;have d2:=(R3.out.ext hx4).cell (i:=2) rfl;have d3:=(R3.out.ext hx4).cell (i:=3) rfl;have d4:=(R3.out.ext hx4).cell (i:=4) rfl;have d5:=(R3.out.ext hx4).cell (i:=5) rfl;have d6:=(R3.out.ext hx4).cell (i:=6) rfl;have d7:=(R3.out.ext hx4).cell (i:=7) rfl;have d8:=(R3.out.ext hx4).cell (i:=8) rfl;have d9:=(R3.out.ext hx4).cell (i:=9) rfl;have r0:=(Q3.out.ext hx4).cell (i:=0) rfl;have r1:=(Q3.out.ext hx4).cell (i:=1) rfl;have r2:=(Q3.out.ext hx4).cell (i:=2) rfl;have r3:=(Q3.out.ext hx4).cell (i:=3) rfl;have r4:=(Q3.out.ext hx4).cell (i:=4) rfl;clear hx4)
       | (go_at_call 137;(with_reducible refine (KK.out _ X4.out).mono ?_);rintro e w5 ⟨rfl,hx5⟩;have X5:=hide (X4.out.trans hx5);clear hx5))
      go_ret
      exact ⟨rfl,X4.out⟩
     | true=>
      go_wp2_with (first
       | (go_at_call 136;(with_reducible refine (KC.out _).mono ?_);rintro e w4 ⟨rfl,hx4⟩;have X4:=hide (X3.out.trans hx4);have d0:=(R3.out.ext hx4).cell (i:=0) rfl;have d1:=(R3.out.ext hx4).cell (i:=1) rfl;have d2:=(R3.out.ext hx4).cell (i:=2) rfl;have d3:=(R3.out.ext hx4).cell (i:=3) rfl;have d4:=(R3.out.ext hx4).cell (i:=4) rfl;have d5:=(R3.out.ext hx4).cell (i:=5) rfl;have d6:=(R3.out.ext hx4).cell (i:=6) rfl;have d7:=(R3.out.ext hx4).cell (i:=7) rfl;have d8:=(R3.out.ext hx4).cell (i:=8) rfl;have d9:=(R3.out.ext hx4).cell (i:=9) rfl;have r0:=(Q3.out.ext hx4).cell (i:=0) rfl;have r1:=(Q3.out.ext hx4).cell (i:=1) rfl;have r2:=(Q3.out.ext hx4).cell (i:=2) rfl;have r3:=(Q3.out.ext hx4).cell (i:=3) rfl;have r4:=(Q3.out.ext hx4).cell (i:=4) rfl;clear hx4)
       | (go_at_call 137;(with_reducible refine (KK.out _ X4.out).mono ?_);rintro e w5 ⟨rfl,hx5⟩;have X5:=hide (X4.out.trans hx5);clear hx5))
      go_ret
      exact ⟨rfl,X5.out⟩
    ·have en:(nx==0)=false:=by simp [hn]
     go_wp2_with (first
      | (go_at_call 136;(with_reducible refine (KC.out _).mono ?_);rintro e w4 ⟨rfl,hx4⟩;have X4:=hide (X3.out.trans hx4);have d0:=(R3.out.ext hx4).cell (i:=0) rfl;have d1:=(R3.out.ext hx4).cell (i:=1) rfl;have d2:=(R3.out.ext hx4).cell (i:=2) rfl;have d3:=(R3.out.ext hx4).cell (i:=3) rfl;have d4:=(R3.out.ext hx4).cell (i:=4) rfl;have d5:=(R3.out.ext hx4).cell (i:=5) rfl;have d6:=(R3.out.ext hx4).cell (i:=6) rfl;have d7:=(R3.out.ext hx4).cell (i:=7) rfl;have d8:=(R3.out.ext hx4).cell (i:=8) rfl;have d9:=(R3.out.ext hx4).cell (i:=9) rfl;have r0:=(Q3.out.ext hx4).cell (i:=0) rfl;have r1:=(Q3.out.ext hx4).cell (i:=1) rfl;have r2:=(Q3.out.ext hx4).cell (i:=2) rfl;have r3:=(Q3.out.ext hx4).cell (i:=3) rfl;have r4:=(Q3.out.ext hx4).cell (i:=4) rfl;clear hx4)
      | (go_at_call 137;(with_reducible refine (KK.out _ X4.out).mono ?_);rintro e w5 ⟨rfl,hx5⟩;have X5:=hide (X4.out.trans hx5);clear hx5))
     go_ret
     exact ⟨by rw [en];rfl,X3.out⟩
  | false=>
   by_cases hp:pv=0
   ·subst hp
    cases n with
    | true=>
     cases g1 with
     | false=>
      go_wp2_with (first
       | (go_at_call 136;(with_reducible refine (KC.out _).mono ?_);rintro e w4 ⟨rfl,hx4⟩;have X4:=hide (X3.out.trans hx4);have d0:=(R3.out.ext hx4).cell (i:=0) rfl;have d1:=(R3.out.ext hx4).cell (i:=1) rfl;have d2:=(R3.out.ext hx4).cell (i:=2) rfl;have d3:=(R3.out.ext hx4).cell (i:=3) rfl;have d4:=(R3.out.ext hx4).cell (i:=4) rfl;have d5:=(R3.out.ext hx4).cell (i:=5) rfl;have d6:=(R3.out.ext hx4).cell (i:=6) rfl;have d7:=(R3.out.ext hx4).cell (i:=7) rfl;have d8:=(R3.out.ext hx4).cell (i:=8) rfl;have d9:=(R3.out.ext hx4).cell (i:=9) rfl;have r0:=(Q3.out.ext hx4).cell (i:=0) rfl;have r1:=(Q3.out.ext hx4).cell (i:=1) rfl;have r2:=(Q3.out.ext hx4).cell (i:=2) rfl;have r3:=(Q3.out.ext hx4).cell (i:=3) rfl;have r4:=(Q3.out.ext hx4).cell (i:=4) rfl;clear hx4)
       | (go_at_call 137;(with_reducible refine (KK.out _ X4.out).mono ?_);rintro e w5 ⟨rfl,hx5⟩;have X5:=hide (X4.out.trans hx5);clear hx5))
      go_ret
      exact ⟨rfl,X4.out⟩
     | true=>
      go_wp2_with (first
       | (go_at_call 136;(with_reducible refine (KC.out _).mono ?_);rintro e w4 ⟨rfl,hx4⟩;have X4:=hide (X3.out.trans hx4);have d0:=(R3.out.ext hx4).cell (i:=0) rfl;have d1:=(R3.out.ext hx4).cell (i:=1) rfl;have d2:=(R3.out.ext hx4).cell (i:=2) rfl;have d3:=(R3.out.ext hx4).cell (i:=3) rfl;have d4:=(R3.out.ext hx4).cell (i:=4) rfl;have d5:=(R3.out.ext hx4).cell (i:=5) rfl;have d6:=(R3.out.ext hx4).cell (i:=6) rfl;have d7:=(R3.out.ext hx4).cell (i:=7) rfl;have d8:=(R3.out.ext hx4).cell (i:=8) rfl;have d9:=(R3.out.ext hx4).cell (i:=9) rfl;have r0:=(Q3.out.ext hx4).cell (i:=0) rfl;have r1:=(Q3.out.ext hx4).cell (i:=1) rfl;have r2:=(Q3.out.ext hx4).cell (i:=2) rfl;have r3:=(Q3.out.ext hx4).cell (i:=3) rfl;have r4:=(Q3.out.ext hx4).cell (i:=4) rfl;clear hx4)
       | (go_at_call 137;(with_reducible refine (KK.out _ X4.out).mono ?_);rintro e w5 ⟨rfl,hx5⟩;have X5:=hide (X4.out.trans hx5);clear hx5))
      go_ret
      exact ⟨rfl,X5.out⟩
    | false=>
     by_cases hn:nx=0
     ·subst hn
      cases g1 with
      | false=>
       go_wp2_with (first
        | (go_at_call 136;(with_reducible refine (KC.out _).mono ?_);rintro e w4 ⟨rfl,hx4⟩;have X4:=hide (X3.out.trans hx4);have d0:=(R3.out.ext hx4).cell (i:=0) rfl;have d1:=(R3.out.ext hx4).cell (i:=1) rfl;have d2:=(R3.out.ext hx4).cell (i:=2) rfl;have d3:=(R3.out.ext hx4).cell (i:=3) rfl;have d4:=(R3.out.ext hx4).cell (i:=4) rfl;have d5:=(R3.out.ext hx4).cell (i:=5) rfl;have d6:=(R3.out.ext hx4).cell (i:=6) rfl;have d7:=(R3.out.ext hx4).cell (i:=7) rfl;have d8:=(R3.out.ext hx4).cell (i:=8) rfl;have d9:=(R3.out.ext hx4).cell (i:=9) rfl;have r0:=(Q3.out.ext hx4).cell (i:=0) rfl;have r1:=(Q3.out.ext hx4).cell (i:=1) rfl;have r2:=(Q3.out.ext hx4).cell (i:=2) rfl;have r3:=(Q3.out.ext hx4).cell (i:=3) rfl;have r4:=(Q3.out.ext hx4).cell (i:=4) rfl;clear hx4)
        | (go_at_call 137;(with_reducible refine (KK.out _ X4.out).mono ?_);rintro e w5 ⟨rfl,hx5⟩;have X5:=hide (X4.out.trans hx5);clear hx5))
       go_ret
       exact ⟨rfl,X4.out⟩
      | true=>
       go_wp2_with (first
        | (go_at_call 136;(with_reducible refine (KC.out _).mono ?_);rintro e w4 ⟨rfl,hx4⟩;have X4:=hide (X3.out.trans hx4);have d0:=(R3.out.ext hx4).cell (i:=0) rfl;have d1:=(R3.out.ext hx4).cell (i:=1) rfl;have d2:=(R3.out.ext hx4).cell (i:=2) rfl;have d3:=(R3.out.ext hx4).cell (i:=3) rfl;have d4:=(R3.out.ext hx4).cell (i:=4) rfl;have d5:=(R3.out.ext hx4).cell (i:=5) rfl;have d6:=(R3.out.ext hx4).cell (i:=6) rfl;have d7:=(R3.out.ext hx4).cell (i:=7) rfl;have d8:=(R3.out.ext hx4).cell (i:=8) rfl;have d9:=(R3.out.ext hx4).cell (i:=9) rfl;have r0:=(Q3.out.ext hx4).cell (i:=0) rfl;have r1:=(Q3.out.ext hx4).cell (i:=1) rfl;have r2:=(Q3.out.ext hx4).cell (i:=2) rfl;have r3:=(Q3.out.ext hx4).cell (i:=3) rfl;have r4:=(Q3.out.ext hx4).cell (i:=4) rfl;clear hx4)
        | (go_at_call 137;(with_reducible refine (KK.out _ X4.out).mono ?_);rintro e w5 ⟨rfl,hx5⟩;have X5:=hide (X4.out.trans hx5);clear hx5))
       go_ret
       exact ⟨rfl,X5.out⟩
     ·have en:(nx==0)=false:=by simp [hn]
      go_wp2_with (first
       | (go_at_call 136;(with_reducible refine (KC.out _).mono ?_);rintro e w4 ⟨rfl,hx4⟩;have X4:=hide (X3.out.trans hx4);have d0:=(R3.out.ext hx4).cell (i:=0) rfl;have d1:=(R3.out.ext hx4).cell (i:=1) rfl;have d2:=(R3.out.ext hx4).cell (i:=2) rfl;have d3:=(R3.out.ext hx4).cell (i:=3) rfl;have d4:=(R3.out.ext hx4).cell (i:=4) rfl;have d5:=(R3.out.ext hx4).cell (i:=5) rfl;have d6:=(R3.out.ext hx4).cell (i:=6) rfl;have d7:=(R3.out.ext hx4).cell (i:=7) rfl;have d8:=(R3.out.ext hx4).cell (i:=8) rfl;have d9:=(R3.out.ext hx4).cell (i:=9) rfl;have r0:=(Q3.out.ext hx4).cell (i:=0) rfl;have r1:=(Q3.out.ext hx4).cell (i:=1) rfl;have r2:=(Q3.out.ext hx4).cell (i:=2) rfl;have r3:=(Q3.out.ext hx4).cell (i:=3) rfl;have r4:=(Q3.out.ext hx4).cell (i:=4) rfl;clear hx4)
       | (go_at_call 137;(with_reducible refine (KK.out _ X4.out).mono ?_);rintro e w5 ⟨rfl,hx5⟩;have X5:=hide (X4.out.trans hx5);clear hx5))
      go_ret
      exact ⟨by rw [en];rfl,X3.out⟩
   ·have ep:(pv==0)=false:=by simp [hp]
    go_wp2_with (first
     | (go_at_call 136;(with_reducible refine (KC.out _).mono ?_);rintro e w4 ⟨rfl,hx4⟩;have X4:=hide (X3.out.trans hx4);have d0:=(R3.out.ext hx4).cell (i:=0) rfl;have d1:=(R3.out.ext hx4).cell (i:=1) rfl;have d2:=(R3.out.ext hx4).cell (i:=2) rfl;have d3:=(R3.out.ext hx4).cell (i:=3) rfl;have d4:=(R3.out.ext hx4).cell (i:=4) rfl;have d5:=(R3.out.ext hx4).cell (i:=5) rfl;have d6:=(R3.out.ext hx4).cell (i:=6) rfl;have d7:=(R3.out.ext hx4).cell (i:=7) rfl;have d8:=(R3.out.ext hx4).cell (i:=8) rfl;have d9:=(R3.out.ext hx4).cell (i:=9) rfl;have r0:=(Q3.out.ext hx4).cell (i:=0) rfl;have r1:=(Q3.out.ext hx4).cell (i:=1) rfl;have r2:=(Q3.out.ext hx4).cell (i:=2) rfl;have r3:=(Q3.out.ext hx4).cell (i:=3) rfl;have r4:=(Q3.out.ext hx4).cell (i:=4) rfl;clear hx4)
     | (go_at_call 137;(with_reducible refine (KK.out _ X4.out).mono ?_);rintro e w5 ⟨rfl,hx5⟩;have X5:=hide (X4.out.trans hx5);clear hx5))
    go_ret
    exact ⟨by rw [ep];rfl,X3.out⟩
def numN (n:Nat) (u:Int):List UInt8:=(be64 u).drop (8 - n)
theorem numN_length (n:Nat) (u:Int) (h:n≤8):(numN n u).length=n:=by rw [numN,List.length_drop,be64_length];omega
def RStay (w w':World):Prop:=∀(g:Nat) (t:TypeId) (vs:List Value),t≠5→Rw w g t vs→Rw w' g t vs
theorem RStay.ext {w w':World} (h:Ext w w'):RStay w w':=fun _ _ _ _ hr=>hr.ext h
theorem RStay.trans {a b c:World} (h:RStay a b) (k:RStay b c):RStay a c:=fun g t vs ht hr=>k g t vs ht (h g t vs ht hr)
def AddP (w:World) (B:Nat) (l:List UInt8) (e:Ending) (w':World):Prop:=∃v',e= .returned v'∧Own w' B v' l∧Below B w w'∧RStay w w'
theorem own_apartRr {w:World} {B g:Nat} {t:TypeId} {v:Value} {l:List UInt8} {vs:List Value} (h:Rw w g t vs) (ht:t≠5) (ho:Own w B v l):some g≠v.ownBlock:=fun e=>by
 rcases ho.2 with ⟨rfl,_⟩ | ⟨g2,cap,cur,rfl,_,hg,_⟩
 ·cases e
 ·injection e with e
  subst e
  unfold Rw at h
  rw [hg] at h
  injection h with h
  injection h with _ h2
  exact ht h2.symm
theorem Rw.rgrown {w w':World} {B g:Nat} {t:TypeId} {v:Value} {l:List UInt8} {vs:List Value} (h:Rw w g t vs) (ht:t≠5) (ho:Own w B v l) (hg:w.grownBy w' v.ownBlock):Rw w' g t vs:=
 (hg.block g h.lt (own_apartRr h ht ho)).trans h
theorem Ext.below {w0 w w':World} {B:Nat} (hx:Ext w0 w) (hB:w0.heap.size≤B) (hb:Below B w w'):Ext w0 w':=Below.trans hx (hb.mono hB)
section
variable {ops:Array Oper} {rest:List Oper} {o:Oper} {a:Act} {Q:Exit→Act→World→Prop} {w:World}
theorem wpList_catGr (hgd:Region.wanted o (yielded ops a.tmps)=true) (s x:Operand) (ho:o.op= .call { callee:= .builtin .append,args:= #[s,x],argTypes:= #[22,22] })
  (base:Nat) (v:Value) (l m:List UInt8) (A:Option Addr) (n c:Nat) (hs:a.eval s=v) (hx:a.eval x= .slice A n c) (hn:n=m.length) (hown:Own w base v l) (hr:Rd w A m) (hbase:base≤w.heap.size) (hlen:l.length + m.length≤140737488355328)
  (h:∀v' w',Own w' base v' (l ++ m)→Below base w w'→RStay w w'→wpList Tryz.prog ops Q rest (a.put o.dst v') w'):wpList Tryz.prog ops Q (o::rest) a w:=by
 subst hn
 obtain ⟨v',w',hrun,h2,h4,h3⟩:=run_cat w base o.type v l m A c hown hr hbase hlen
 refine wpList_wanted hgd fun K hK=> ?_
 unfold Oper.wp execOp
 simp only [ho,resolve,invoke,builtin,Sem.run_bind,Sem.run_pure,Result.andThen_ok,List.map_toArray,List.map_cons,List.map_nil,hs,hx,hrun]
 exact hK _ _ (h v' w' h2 h4 (fun _ _ _ ht hr=>hr.rgrown ht hown h3))
end
theorem appendNumber_1 (v:Value) (l:List UInt8) (u:Int) (B:Nat) (w:World) (ho:Own w B v l) (hB:B≤w.heap.size) (h0:0≤u) (h1:u < 18446744073709551616) (hl:l.length≤4398046511104):
  Calls Tryz.prog 123 #[v, .int .u64 u, .int .i64 1] w (AddP w B (l ++ numN 1 u)):=by
 have KU:=hide (fun (W:World)=>uint_any u W h0 h1)
 have HO:=hide ho
 have HB:=hide hB
 have HL:=hide hl
 clear ho hB h0 h1 hl
 go_enter Tryz.func123,Tryz.ntmps123
 go_upto_region 2 with (go_at_call 112;(with_reducible refine (KU.out _).mono ?_);rintro e w1 ⟨v1,rfl,hx1,A1,c1,rfl,hc1,hr1⟩;have X1:=hide hx1;have R1:=hide hr1;clear hx1 hr1)
 have hc8:8≤c1:=hc1
 have HLN:=hide (be64_length u)
 rw [HLN.out]
 obtain ⟨b1,o1,hA1,-⟩:=R1.out (by intro e;have:=HLN.out;rw [e] at this;cases this)
 subst hA1
 have RD:Hid (Rd w1 (some ⟨b1,o1 + 7,none⟩) (numN 1 u)):=hide (by have h:=R1.out.drop 7;rw [add_flat] at h;exact h)
 have hck:¬c1=7:=by omega
 have hci:(7:Int)≤(c1:Int):=by omega
 have hci8:(8:Int)≤(c1:Int):=by omega
 clear hc1
 go_wp2_with (refine wpList_catGr rfl (.tmp 10) (.tmp 16) rfl B v l (numN 1 u) (some ⟨b1,o1 + 7,none⟩) 1 _ rfl rfl (numN_length _ _ (by decide)).symm (HO.out.ext X1.out) RD.out (Nat.le_trans HB.out X1.out.size) (by rw [numN_length _ _ (by decide)];have:=HL.out;omega) ?_;intro v2 w2 ho2 hb2 hs2)
 go_ret
 exact ⟨v2,rfl,ho2,(Below.mono X1.out HB.out).trans hb2,(RStay.ext X1.out).trans hs2⟩
theorem appendNumber_2 (v:Value) (l:List UInt8) (u:Int) (B:Nat) (w:World) (ho:Own w B v l) (hB:B≤w.heap.size) (h0:0≤u) (h1:u < 18446744073709551616) (hl:l.length≤4398046511104):
  Calls Tryz.prog 123 #[v, .int .u64 u, .int .i64 2] w (AddP w B (l ++ numN 2 u)):=by
 have KU:=hide (fun (W:World)=>uint_any u W h0 h1)
 have HO:=hide ho
 have HB:=hide hB
 have HL:=hide hl
 clear ho hB h0 h1 hl
 go_enter Tryz.func123,Tryz.ntmps123
 go_upto_region 2 with (go_at_call 112;(with_reducible refine (KU.out _).mono ?_);rintro e w1 ⟨v1,rfl,hx1,A1,c1,rfl,hc1,hr1⟩;have X1:=hide hx1;have R1:=hide hr1;clear hx1 hr1)
 have hc8:8≤c1:=hc1
 have HLN:=hide (be64_length u)
 rw [HLN.out]
 obtain ⟨b1,o1,hA1,-⟩:=R1.out (by intro e;have:=HLN.out;rw [e] at this;cases this)
 subst hA1
 have RD:Hid (Rd w1 (some ⟨b1,o1 + 6,none⟩) (numN 2 u)):=hide (by have h:=R1.out.drop 6;rw [add_flat] at h;exact h)
 have hck:¬c1=6:=by omega
 have hci:(6:Int)≤(c1:Int):=by omega
 have hci8:(8:Int)≤(c1:Int):=by omega
 clear hc1
 go_wp2_with (refine wpList_catGr rfl (.tmp 10) (.tmp 16) rfl B v l (numN 2 u) (some ⟨b1,o1 + 6,none⟩) 2 _ rfl rfl (numN_length _ _ (by decide)).symm (HO.out.ext X1.out) RD.out (Nat.le_trans HB.out X1.out.size) (by rw [numN_length _ _ (by decide)];have:=HL.out;omega) ?_;intro v2 w2 ho2 hb2 hs2)
 go_ret
 exact ⟨v2,rfl,ho2,(Below.mono X1.out HB.out).trans hb2,(RStay.ext X1.out).trans hs2⟩
theorem appendNumber_4 (v:Value) (l:List UInt8) (u:Int) (B:Nat) (w:World) (ho:Own w B v l) (hB:B≤w.heap.size) (h0:0≤u) (h1:u < 18446744073709551616) (hl:l.length≤4398046511104):
  Calls Tryz.prog 123 #[v, .int .u64 u, .int .i64 4] w (AddP w B (l ++ numN 4 u)):=by
 have KU:=hide (fun (W:World)=>uint_any u W h0 h1)
 have HO:=hide ho
 have HB:=hide hB
 have HL:=hide hl
 clear ho hB h0 h1 hl
 go_enter Tryz.func123,Tryz.ntmps123
 go_upto_region 2 with (go_at_call 112;(with_reducible refine (KU.out _).mono ?_);rintro e w1 ⟨v1,rfl,hx1,A1,c1,rfl,hc1,hr1⟩;have X1:=hide hx1;have R1:=hide hr1;clear hx1 hr1)
 have hc8:8≤c1:=hc1
 have HLN:=hide (be64_length u)
 rw [HLN.out]
 obtain ⟨b1,o1,hA1,-⟩:=R1.out (by intro e;have:=HLN.out;rw [e] at this;cases this)
 subst hA1
 have RD:Hid (Rd w1 (some ⟨b1,o1 + 4,none⟩) (numN 4 u)):=hide (by have h:=R1.out.drop 4;rw [add_flat] at h;exact h)
 have hck:¬c1=4:=by omega
 have hci:(4:Int)≤(c1:Int):=by omega
 have hci8:(8:Int)≤(c1:Int):=by omega
 clear hc1
 go_wp2_with (refine wpList_catGr rfl (.tmp 10) (.tmp 16) rfl B v l (numN 4 u) (some ⟨b1,o1 + 4,none⟩) 4 _ rfl rfl (numN_length _ _ (by decide)).symm (HO.out.ext X1.out) RD.out (Nat.le_trans HB.out X1.out.size) (by rw [numN_length _ _ (by decide)];have:=HL.out;omega) ?_;intro v2 w2 ho2 hb2 hs2)
 go_ret
 exact ⟨v2,rfl,ho2,(Below.mono X1.out HB.out).trans hb2,(RStay.ext X1.out).trans hs2⟩
theorem appendNumber_8 (v:Value) (l:List UInt8) (u:Int) (B:Nat) (w:World) (ho:Own w B v l) (hB:B≤w.heap.size) (h0:0≤u) (h1:u < 18446744073709551616) (hl:l.length≤4398046511104):
  Calls Tryz.prog 123 #[v, .int .u64 u, .int .i64 8] w (AddP w B (l ++ numN 8 u)):=by
 have KU:=hide (fun (W:World)=>uint_any u W h0 h1)
 have HO:=hide ho
 have HB:=hide hB
 have HL:=hide hl
 clear ho hB h0 h1 hl
 go_enter Tryz.func123,Tryz.ntmps123
 go_upto_region 2 with (go_at_call 112;(with_reducible refine (KU.out _).mono ?_);rintro e w1 ⟨v1,rfl,hx1,A1,c1,rfl,hc1,hr1⟩;have X1:=hide hx1;have R1:=hide hr1;clear hx1 hr1)
 have hc8:8≤c1:=hc1
 have HLN:=hide (be64_length u)
 rw [HLN.out]
 obtain ⟨b1,o1,hA1,-⟩:=R1.out (by intro e;have:=HLN.out;rw [e] at this;cases this)
 subst hA1
 have RD:Hid (Rd w1 (some ⟨b1,o1 + 0,none⟩) (numN 8 u)):=hide (by have h:=R1.out.drop 0;rw [add_flat] at h;exact h)
 have hck:¬c1=0:=by omega
 have hci:(0:Int)≤(c1:Int):=by omega
 have hci8:(8:Int)≤(c1:Int):=by omega
 clear hc1
 go_wp2_with (refine wpList_catGr rfl (.tmp 10) (.tmp 16) rfl B v l (numN 8 u) (some ⟨b1,o1 + 0,none⟩) 8 _ rfl rfl (numN_length _ _ (by decide)).symm (HO.out.ext X1.out) RD.out (Nat.le_trans HB.out X1.out.size) (by rw [numN_length _ _ (by decide)];have:=HL.out;omega) ?_;intro v2 w2 ho2 hb2 hs2)
 go_ret
 exact ⟨v2,rfl,ho2,(Below.mono X1.out HB.out).trans hb2,(RStay.ext X1.out).trans hs2⟩
def sumB (l:List UInt8):List UInt8:=numN 4 (crc l:Int)
theorem crc_lt (l:List UInt8):(crc l:Int) < 18446744073709551616:=by unfold crc;omega
theorem rcsumOf_any (A:Option Addr) (l:List UInt8) (n c:Nat) (w:World) (hr:Rd w A l) (hn:l.length=n) (hl:n≤140737488355328) (ht:Tab w):
  Calls Tryz.prog 125 #[.slice A n c] w (Ret w (fun w' v=>Own w' w.heap.size v (sumB l))):=by
 subst hn
 have KS:=hide (sum_any A c l w hr hl ht)
 obtain ⟨s,HS⟩:∃s:Nat,Hid (crc l=s):=⟨_,hide rfl⟩
 have HSL:Hid ((s:Int) < 18446744073709551616):=hide (by rw [← HS.out];exact crc_lt l)
 have HSB:Hid (numN 4 (s:Int)=sumB l):=hide (by rw [← HS.out];rfl)
 rw [HS.out] at KS
 have hs32:IntKind.u64.wrap (s:Int)=(s:Int):=by rw [IntKind.wrap_u64];have:=HSL.out;omega
 clear hr hl ht
 obtain ⟨n,HN⟩:∃n,Hid (l.length=n):=⟨_,hide rfl⟩
 rw [HN.out] at KS ⊢
 go_enter Tryz.func125,Tryz.ntmps125
 go_wp2_with (first
  | (go_at_call 135;(with_reducible refine KS.out.mono ?_);rintro e w1 ⟨v1,rfl,hx1,rfl⟩;have X1:=hide hx1;clear hx1)
  | (go_at_call 123;have KA:=appendNumber_4 (.slice none 0 0) [] (s:Int) w.heap.size _ (Own.nil _ _) X1.out.size (by omega) HSL.out (by simp);(with_reducible refine KA.mono ?_);rintro e w2 ⟨v2,rfl,ho2,hb2,-⟩;have O2:=hide ho2;have B2:=hide hb2;clear ho2 hb2 KA))
 go_ret
 refine Ret.mk (X1.out.below (Nat.le_refl _) B2.out) ?_
 rw [← HSB.out]
 exact O2.out
def dirB (L:List (Int×Int)):List UInt8:=L.flatMap fun d=>numN 2 d.1 ++ numN 8 d.2
theorem dirB_length (L:List (Int×Int)):(dirB L).length=10 * L.length:=by
 induction L with
 | nil=>rfl
 | cons d L ih=>
  have e:dirB (d::L)=(numN 2 d.1 ++ numN 8 d.2) ++ dirB L:=by simp [dirB]
  rw [e,List.length_append,List.length_append,numN_length 2 _ (by decide),numN_length 8 _ (by decide),ih,List.length_cons]
  omega
theorem dirB_snoc (L:List (Int×Int)) (i:Nat) (e:Int×Int) (h:L[i]? =some e):dirB (L.take (i + 1))=dirB (L.take i) ++ (numN 2 e.1 ++ numN 8 e.2):=by
 rw [List.take_add_one,h]
 simp [dirB]
def cntN (nd:Nat) (op:Bool):Int:=2 * (nd:Int) + if op then 1 else 0
theorem appendCheck_any (v:Value) (l:List UInt8) (k tx pv pg off nx:Int) (A B D:Option Addr) (nb a na b' nd d:Nat) (op:Bool) (w0 w:World) (BB:Nat) (L:List (Int×Int)) (hr:RdD w0 D L) (hx0:Ext w0 w) (hB0:w0.heap.size≤BB) (hB:BB≤w.heap.size) (hn:L.length=nd) (hnd:nd≤64)
  (hL:∀e∈L,(0≤e.1∧e.1 < 4096)∧0≤e.2∧e.2 < 18446744073709551616) (ho:Own w BB v l) (hl:l.length≤1000000):
  Calls Tryz.prog 124 #[v, .agg #[.int .u8 k, .int .u64 tx, .int .u64 pv, .int .i64 pg, .int .i64 off, .slice A nb a, .slice B na b', .int .u64 nx, .slice D nd d, .bool op]] w (AddP w BB (l ++ (numN 1 (cntN nd op) ++ dirB L))):=by
 have HR:=hide hr
 have HX0:=hide hx0
 have HB0:=hide hB0
 have HB:=hide hB
 have HN:=hide hn
 have HL:=hide hL
 have HO:=hide ho
 have HLL:=hide hl
 have hw2:IntKind.u64.wrap (2 * (nd:Int))=2 * (nd:Int):=by rw [IntKind.wrap_u64];omega
 have hw3:IntKind.u64.wrap (2 * (nd:Int) + 1)=2 * (nd:Int) + 1:=by rw [IntKind.wrap_u64];omega
 have hndi:(nd:Int)≤64:=by omega
 clear hr hx0 hB0 hB hn hL ho hl
 go_enter Tryz.func124,Tryz.ntmps124
 go_upto_region 1 with fail
 obtain ⟨W1,hX1,hR1,hg⟩:∃W1,Ext w W1∧Rw W1 w.heap.size 95 [.int .u8 k, .int .u64 tx, .int .u64 pv, .int .i64 pg, .int .i64 off, .slice A nb a, .slice B na b', .int .u64 nx, .slice D nd d, .bool op]∧w.alloc (.cells #[.int .u8 k, .int .u64 tx, .int .u64 pv, .int .i64 pg, .int .i64 off, .slice A nb a, .slice B na b', .int .u64 nx, .slice D nd d, .bool op] 95)=W1:=⟨_,Ext.alloc _ _,Rw.new _ _ _,rfl⟩
 rw [hg]
 obtain ⟨hb,HHB⟩:∃hb,Hid (w.heap.size=hb):=⟨_,hide rfl⟩
 rw [HHB.out] at hR1 ⊢
 have X1:=hide hX1
 have R1:=hide hR1
 have c8:=hR1.cell (i:=8) rfl
 have c9:=hR1.cell (i:=9) rfl
 clear hg hX1 hR1
 cases op with
 | false=>
  go_upto_region 4 with fail
  have KA:=hide (appendNumber_1 v l (2 * (nd:Int)) BB W1 (HO.out.ext X1.out) (Nat.le_trans HB.out X1.out.size) (by omega) (by omega) (by have:=HLL.out;omega))
  go_upto_region 5 with (go_at_call 123;(with_reducible refine KA.out.mono ?_);rintro e w2 ⟨v2,rfl,ho2,hb2,hs2⟩;have O2:=hide ho2;have B2:Hid (Below BB w w2):=hide ((Below.mono X1.out HB.out).trans hb2);have S2:Hid (RStay w w2):=hide ((RStay.ext X1.out).trans hs2);have R2:=hide (hs2 hb _ _ (by decide) R1.out);clear ho2 hb2 hs2)
  clear c8 c9 KA
  have c8:=R2.out.cell (i:=8) rfl
  obtain ⟨l1,HL1⟩:∃l1,Hid (l ++ numN 1 (2 * (nd:Int))=l1):=⟨_,hide rfl⟩
  rw [HL1.out] at O2
  have HLN:Hid (l1.length≤1000001):=hide (by rw [← HL1.out,List.length_append,numN_length 1 _ (by decide)];have:=HLL.out;omega)
  have HEND:Hid (l ++ (numN 1 (cntN nd false) ++ dirB L)=l1 ++ dirB L):=hide (by rw [← HL1.out,List.append_assoc];simp [cntN])
  go_upto_region 6 with fail
  go_loopw [0,23] (fun pz iv wr=>∃(i:Nat) (v':Value),i≤nd∧v' =pz∧iv= .int .i64 (i:Int)∧Hid (Own wr BB v' (l1 ++ dirB (L.take i)))∧Hid (Below BB w wr)∧Hid (RStay w wr)) (fun _ iv _=>nd - (intOf iv).toNat)
  case atStart=>exact ⟨0,_,Nat.zero_le _,rfl,rfl,hide (by rw [List.take_zero];show Own _ _ _ (l1 ++ []);rw [List.append_nil];exact O2.out),B2,S2⟩
  case round=>
   obtain ⟨i,v',hi,rfl,rfl,HOW,HBW,HSW⟩:=hrel
   clear O2 B2 S2 R2 c8
   by_cases hlt:i < nd
   ·obtain ⟨⟨y,z⟩,he⟩:∃e,L[i]? =some e:=⟨_,List.getElem?_eq_getElem (by rw [HN.out];exact hlt)⟩
    obtain ⟨hy,hz⟩:=HL.out _ (List.mem_of_getElem? he)
    have HZ:=hide hz
    have hy0:0≤y:=hy.1
    have hy1:y < 4096:=hy.2
    obtain ⟨bb,oo,hD,k1,k2⟩:=(HR.out.ext (HX0.out.below HB0.out HBW.out)).at he
    subst hD
    have HE:=hide he
    have hii:(i:Int) < (nd:Int):=by omega
    have hi0:(0:Int)≤(i:Int):=by omega
    have hwy:IntKind.u64.wrap y=y:=by rw [IntKind.wrap_u64];omega
    clear he hz hy
    go_upto_region 8 with fail
    obtain ⟨W8,hX8,hR8,hg⟩:∃W8,Ext wr W8∧Rw W8 wr.heap.size 136 [.int .i64 y, .int .u64 z]∧wr.alloc (.cells #[.int .i64 y, .int .u64 z] 136)=W8:=⟨_,Ext.alloc _ _,Rw.new _ _ _,rfl⟩
    rw [hg]
    obtain ⟨h8,HH8⟩:∃h8,Hid (wr.heap.size=h8):=⟨_,hide rfl⟩
    rw [HH8.out] at hR8 ⊢
    have hBW8:BB≤W8.heap.size:=Nat.le_trans (Nat.le_trans HB.out HBW.out.size) hX8.size
    have B8:Hid (Below BB w W8):=hide (HBW.out.trans (Below.mono hX8 (Nat.le_trans HB.out HBW.out.size)))
    have S8:Hid (RStay w W8):=hide (HSW.out.trans (RStay.ext hX8))
    have R8:=hide hR8
    have d0:=hR8.cell (i:=0) rfl
    have KA2:=hide (appendNumber_2 v' (l1 ++ dirB (L.take i)) y BB W8 (HOW.out.ext hX8) hBW8 hy0 (by omega) (by rw [List.length_append,dirB_length,List.length_take];have:=HLN.out;omega))
    clear hg hX8 hR8 k1 k2 hBW8
    go_upto_region 9 with (go_at_call 123;(with_reducible refine KA2.out.mono ?_);rintro e w9 ⟨v9,rfl,ho9,hb9,hs9⟩;have O9:=hide ho9;have B9:Hid (Below BB w w9):=hide (B8.out.trans hb9);have S9:Hid (RStay w w9):=hide (S8.out.trans hs9);have R9:=hide (hs9 h8 _ _ (by decide) R8.out);clear ho9 hb9 hs9)
    clear d0 KA2 B8 S8 R8
    have d1:=R9.out.cell (i:=1) rfl
    have KA3:=hide (appendNumber_8 v9 (l1 ++ dirB (L.take i) ++ numN 2 y) z BB w9 O9.out (Nat.le_trans HB.out B9.out.size) HZ.out.1 HZ.out.2 (by rw [List.length_append,List.length_append,dirB_length,List.length_take,numN_length 2 _ (by decide)];have:=HLN.out;omega))
    go_upto_region 10 with (go_at_call 123;(with_reducible refine KA3.out.mono ?_);rintro e w10 ⟨v10,rfl,ho10,hb10,hs10⟩;have OX:=hide ho10;have BX:Hid (Below BB w w10):=hide (B9.out.trans hb10);have SX:Hid (RStay w w10):=hide (S9.out.trans hs10);clear ho10 hb10 hs10)
    clear d1 KA3 B9 S9 R9 O9 hwy
    go_wp2
    refine ⟨⟨i + 1,_,by omega,rfl,by go_num,hide (by rw [dirB_snoc L i _ HE.out,← List.append_assoc,← List.append_assoc];exact OX.out),BX,SX⟩,by simp [intOf];omega⟩
   ·have hii:¬(i:Int) < (nd:Int):=by omega
    go_wp2
    go_ret
    refine ⟨_,rfl, ?_,HBW.out,HSW.out⟩
    rw [HEND.out]
    have h:=HOW.out
    rw [List.take_of_length_le (by rw [HN.out];omega)] at h
    exact h
 | true=>
  go_upto_region 4 with fail
  have KA:=hide (appendNumber_1 v l (2 * (nd:Int) + 1) BB W1 (HO.out.ext X1.out) (Nat.le_trans HB.out X1.out.size) (by omega) (by omega) (by have:=HLL.out;omega))
  go_upto_region 5 with (go_at_call 123;(with_reducible refine KA.out.mono ?_);rintro e w2 ⟨v2,rfl,ho2,hb2,hs2⟩;have O2:=hide ho2;have B2:Hid (Below BB w w2):=hide ((Below.mono X1.out HB.out).trans hb2);have S2:Hid (RStay w w2):=hide ((RStay.ext X1.out).trans hs2);have R2:=hide (hs2 hb _ _ (by decide) R1.out);clear ho2 hb2 hs2)
  clear c8 c9 KA
  have c8:=R2.out.cell (i:=8) rfl
  obtain ⟨l1,HL1⟩:∃l1,Hid (l ++ numN 1 (2 * (nd:Int) + 1)=l1):=⟨_,hide rfl⟩
  rw [HL1.out] at O2
  have HLN:Hid (l1.length≤1000001):=hide (by rw [← HL1.out,List.length_append,numN_length 1 _ (by decide)];have:=HLL.out;omega)
  have HEND:Hid (l ++ (numN 1 (cntN nd true) ++ dirB L)=l1 ++ dirB L):=hide (by rw [← HL1.out,List.append_assoc];simp [cntN])
  go_upto_region 6 with fail
  go_loopw [0,23] (fun pz iv wr=>∃(i:Nat) (v':Value),i≤nd∧v' =pz∧iv= .int .i64 (i:Int)∧Hid (Own wr BB v' (l1 ++ dirB (L.take i)))∧Hid (Below BB w wr)∧Hid (RStay w wr)) (fun _ iv _=>nd - (intOf iv).toNat)
  case atStart=>exact ⟨0,_,Nat.zero_le _,rfl,rfl,hide (by rw [List.take_zero];show Own _ _ _ (l1 ++ []);rw [List.append_nil];exact O2.out),B2,S2⟩
  case round=>
   obtain ⟨i,v',hi,rfl,rfl,HOW,HBW,HSW⟩:=hrel
   clear O2 B2 S2 R2 c8
   by_cases hlt:i < nd
   ·obtain ⟨⟨y,z⟩,he⟩:∃e,L[i]? =some e:=⟨_,List.getElem?_eq_getElem (by rw [HN.out];exact hlt)⟩
    obtain ⟨hy,hz⟩:=HL.out _ (List.mem_of_getElem? he)
    have HZ:=hide hz
    have hy0:0≤y:=hy.1
    have hy1:y < 4096:=hy.2
    obtain ⟨bb,oo,hD,k1,k2⟩:=(HR.out.ext (HX0.out.below HB0.out HBW.out)).at he
    subst hD
    have HE:=hide he
    have hii:(i:Int) < (nd:Int):=by omega
    have hi0:(0:Int)≤(i:Int):=by omega
    have hwy:IntKind.u64.wrap y=y:=by rw [IntKind.wrap_u64];omega
    clear he hz hy
    go_upto_region 8 with fail
    obtain ⟨W8,hX8,hR8,hg⟩:∃W8,Ext wr W8∧Rw W8 wr.heap.size 136 [.int .i64 y, .int .u64 z]∧wr.alloc (.cells #[.int .i64 y, .int .u64 z] 136)=W8:=⟨_,Ext.alloc _ _,Rw.new _ _ _,rfl⟩
    rw [hg]
    obtain ⟨h8,HH8⟩:∃h8,Hid (wr.heap.size=h8):=⟨_,hide rfl⟩
    rw [HH8.out] at hR8 ⊢
    have hBW8:BB≤W8.heap.size:=Nat.le_trans (Nat.le_trans HB.out HBW.out.size) hX8.size
    have B8:Hid (Below BB w W8):=hide (HBW.out.trans (Below.mono hX8 (Nat.le_trans HB.out HBW.out.size)))
    have S8:Hid (RStay w W8):=hide (HSW.out.trans (RStay.ext hX8))
    have R8:=hide hR8
    have d0:=hR8.cell (i:=0) rfl
    have KA2:=hide (appendNumber_2 v' (l1 ++ dirB (L.take i)) y BB W8 (HOW.out.ext hX8) hBW8 hy0 (by omega) (by rw [List.length_append,dirB_length,List.length_take];have:=HLN.out;omega))
    clear hg hX8 hR8 k1 k2 hBW8
    go_upto_region 9 with (go_at_call 123;(with_reducible refine KA2.out.mono ?_);rintro e w9 ⟨v9,rfl,ho9,hb9,hs9⟩;have O9:=hide ho9;have B9:Hid (Below BB w w9):=hide (B8.out.trans hb9);have S9:Hid (RStay w w9):=hide (S8.out.trans hs9);have R9:=hide (hs9 h8 _ _ (by decide) R8.out);clear ho9 hb9 hs9)
    clear d0 KA2 B8 S8 R8
    have d1:=R9.out.cell (i:=1) rfl
    have KA3:=hide (appendNumber_8 v9 (l1 ++ dirB (L.take i) ++ numN 2 y) z BB w9 O9.out (Nat.le_trans HB.out B9.out.size) HZ.out.1 HZ.out.2 (by rw [List.length_append,List.length_append,dirB_length,List.length_take,numN_length 2 _ (by decide)];have:=HLN.out;omega))
    go_upto_region 10 with (go_at_call 123;(with_reducible refine KA3.out.mono ?_);rintro e w10 ⟨v10,rfl,ho10,hb10,hs10⟩;have OX:=hide ho10;have BX:Hid (Below BB w w10):=hide (B9.out.trans hb10);have SX:Hid (RStay w w10):=hide (S9.out.trans hs10);clear ho10 hb10 hs10)
    clear d1 KA3 B9 S9 R9 O9 hwy
    go_wp2
    refine ⟨⟨i + 1,_,by omega,rfl,by go_num,hide (by rw [dirB_snoc L i _ HE.out,← List.append_assoc,← List.append_assoc];exact OX.out),BX,SX⟩,by simp [intOf];omega⟩
   ·have hii:¬(i:Int) < (nd:Int):=by omega
    go_wp2
    go_ret
    refine ⟨_,rfl, ?_,HBW.out,HSW.out⟩
    rw [HEND.out]
    have h:=HOW.out
    rw [List.take_of_length_le (by rw [HN.out];omega)] at h
    exact h
def recB (k tx pv pg off nx:Int) (bf af:List UInt8) (L:List (Int×Int)) (op:Bool):List UInt8:=
 numN 1 k ++ (numN 8 tx ++ ((if hpv k then numN 8 pv else []) ++ ((if hch k then numN 2 pg ++ (numN 2 off ++ (numN 2 (af.length:Int) ++ (bf ++ af))) else []) ++ ((if hnx k then numN 8 nx else []) ++ (if hck k then numN 1 (cntN L.length op) ++ dirB L else [])))))
def fullB (k tx pv pg off nx:Int) (bf af:List UInt8) (L:List (Int×Int)) (op:Bool):List UInt8:=recB k tx pv pg off nx bf af L op ++ sumB (recB k tx pv pg off nx bf af L op)
theorem risB_mem:∀(L:List (Int×Int)) (last:Int),-1≤last→risB last L=true→∀e∈L,0≤e.1∧e.1 < 4096
 | [],_,_,_,e,he=>by cases he
 | x::L,last,hl,h,e,he=>by
  simp only [risB,Bool.and_eq_true,decide_eq_true_eq] at h
  rcases List.mem_cons.1 he with rfl | he
  ·omega
  ·exact risB_mem L x.1 (by omega) h.2.2 e he
def EncP (w:World) (l:List UInt8) (e:Ending) (w':World):Prop:=∃v',e= .returned (.tuple #[v', .int .i64 0])∧Own w' w.heap.size v' l∧Ext w w'
theorem own_mono {w:World} {B B':Nat} {v:Value} {l:List UInt8} (h:Own w B v l) (hB:B'≤B):Own w B' v l:=by
 refine ⟨h.1, ?_⟩
 rcases h.2 with hn | ⟨g,cap,cur,rfl,hb,rest⟩
 ·exact .inl hn
 ·exact .inr ⟨g,cap,cur,rfl,Nat.le_trans hB hb,rest⟩
theorem encode_1 (tx pv pg off nx:Int) (A B D:Option Addr) (nb a na b' nd d:Nat) (op:Bool) (w:World) (bf af:List UInt8) (L:List (Int×Int)) (ht:Tab w) (hb0:Rd w A bf) (ha0:Rd w B af) (hr:RdD w D L) (hbn:bf.length=nb) (han:af.length=na) (hn:L.length=nd) (hnd:nd≤140737488351232) (hna:na≤140737488351232) (hnb:nb≤140737488351232) (ho: -9223372036854775808≤off) (ho2:off < 9223372036854775808) (htx0:0≤tx) (htx:tx < 18446744073709551616) (hpv0:0≤pv) (hpv1:pv < 18446744073709551616) (hnx0:0≤nx) (hnx1:nx < 18446744073709551616) (hdl:∀e∈L,0≤e.2∧e.2 < 18446744073709551616) (hf:formN 1 pv pg off nx na nb nd L op=true):
  Calls Tryz.prog 97 #[.agg #[.int .u8 1, .int .u64 tx, .int .u64 pv, .int .i64 pg, .int .i64 off, .slice A nb a, .slice B na b', .int .u64 nx, .slice D nd d, .bool op]] w (EncP w (fullB 1 tx pv pg off nx bf af L op)):=by
 have KF:=hide (fun (W:World) (hW:Ext w W)=>(show Calls Tryz.prog 121 #[.agg #[.int .u8 1, .int .u64 tx, .int .u64 pv, .int .i64 pg, .int .i64 off, .slice A nb a, .slice B na b', .int .u64 nx, .slice D nd d, .bool op]] W (RetB W true) from by have h:=form_any 1 tx pv pg off nx A B D nb a na b' nd d op W L (hr.ext hW) hn hnd hna hnb ho ho2;rw [hf] at h;exact h))
 have KP:=hide (fun (W:World)=>(show Calls Tryz.prog 122 #[.int .u8 1] W (fun e w' =>e= .returned (.tuple #[.agg #[.bool false, .bool false, .bool false, .bool false, .bool false], .bool true])∧Ext W w') from partsOf_any 1 W))
 have HT:=hide ht
 have HBF:=hide hb0
 have HAF:=hide ha0
 have HD:=hide hr
 have HBN:=hide hbn
 have HAN:=hide han
 have HN:=hide hn
 have HTX:=hide (And.intro htx0 htx)
 have HPV:=hide (And.intro hpv0 hpv1)
 have HNX:=hide (And.intro hnx0 hnx1)
 clear ht hb0 ha0 hr hbn han hn htx0 htx hpv0 hpv1 hnx0 hnx1 hdl hf ho ho2
 go_enter Tryz.func97,Tryz.ntmps97
 go_upto_region 1 with fail
 obtain ⟨W1,hX1,hR1,hg⟩:∃W1,Ext w W1∧Rw W1 w.heap.size 95 [.int .u8 1, .int .u64 tx, .int .u64 pv, .int .i64 pg, .int .i64 off, .slice A nb a, .slice B na b', .int .u64 nx, .slice D nd d, .bool op]∧w.alloc (.cells #[.int .u8 1, .int .u64 tx, .int .u64 pv, .int .i64 pg, .int .i64 off, .slice A nb a, .slice B na b', .int .u64 nx, .slice D nd d, .bool op] 95)=W1:=⟨_,Ext.alloc _ _,Rw.new _ _ _,rfl⟩
 rw [hg]
 obtain ⟨hb,HHB⟩:∃hb,Hid (w.heap.size=hb):=⟨_,hide rfl⟩
 rw [HHB.out] at hR1 ⊢
 have X1:=hide hX1
 have R1:=hide hR1
 have c0:=hR1.cell (i:=0) rfl
 have c1:=hR1.cell (i:=1) rfl
 have c2:=hR1.cell (i:=2) rfl
 have c3:=hR1.cell (i:=3) rfl
 have c4:=hR1.cell (i:=4) rfl
 have c5:=hR1.cell (i:=5) rfl
 have c6:=hR1.cell (i:=6) rfl
 have c7:=hR1.cell (i:=7) rfl
 have c8:=hR1.cell (i:=8) rfl
 have c9:=hR1.cell (i:=9) rfl
 clear hg hX1 hR1
 go_upto_region 3 with (go_at_call 121;(with_reducible refine (KF.out _ X1.out).mono ?_);rintro e w2 ⟨rfl,hx2⟩;have X2:=hide (X1.out.trans hx2);have R2:=hide (R1.out.ext hx2);clear hx2)
 clear c0 c1 c2 c3 c4 c5 c6 c7 c8 c9
 have c0:=R2.out.cell (i:=0) rfl
 go_upto_region 4 with (go_at_call 122;(with_reducible refine (KP.out _).mono ?_);rintro e w3 ⟨rfl,hx3⟩;have X3:=hide (X2.out.trans hx3);have R3:=hide (R2.out.ext hx3);clear hx3)
 clear c0
 obtain ⟨W4,hX4,hR4,hg⟩:∃W4,Ext w3 W4∧Rw W4 w3.heap.size 162 [.bool false, .bool false, .bool false, .bool false, .bool false]∧w3.alloc (.cells #[.bool false, .bool false, .bool false, .bool false, .bool false] 162)=W4:=⟨_,Ext.alloc _ _,Rw.new _ _ _,rfl⟩
 rw [hg]
 obtain ⟨hq,HHQ⟩:∃hq,Hid (w3.heap.size=hq):=⟨_,hide rfl⟩
 rw [HHQ.out] at hR4 ⊢
 have R4:=hide (R3.out.ext hX4)
 have Q4:=hide hR4
 obtain ⟨BB,HBB⟩:∃BB,Hid (W4.heap.size=BB):=⟨_,hide rfl⟩
 have XW4:=hide (X3.out.trans hX4)
 have HB0:Hid (w.heap.size≤BB):=hide (by rw [← HBB.out];exact XW4.out.size)
 have Y4:Hid (Below BB W4 W4):=hide (Below.refl _ _)
 have O4:Hid (Own W4 BB (.slice none 0 0) []):=hide (Own.nil _ _)
 have HBW:Hid (BB≤W4.heap.size):=hide (by rw [HBB.out];exact Nat.le_refl _)
 clear hg hX4 hR4 X1 X2 X3 R1 R2 R3 KF KP HHB HHQ
 have c0:=R4.out.cell (i:=0) rfl
 have c1:=R4.out.cell (i:=1) rfl
 have c2:=R4.out.cell (i:=2) rfl
 have c3:=R4.out.cell (i:=3) rfl
 have c4:=R4.out.cell (i:=4) rfl
 have c5:=R4.out.cell (i:=5) rfl
 have c6:=R4.out.cell (i:=6) rfl
 have c7:=R4.out.cell (i:=7) rfl
 have c8:=R4.out.cell (i:=8) rfl
 have c9:=R4.out.cell (i:=9) rfl
 have q0:=Q4.out.cell (i:=0) rfl
 have q1:=Q4.out.cell (i:=1) rfl
 have q2:=Q4.out.cell (i:=2) rfl
 have q3:=Q4.out.cell (i:=3) rfl
 have q4:=Q4.out.cell (i:=4) rfl
 have KA:=hide (appendNumber_1 (.slice none 0 0) [] 1 BB W4 O4.out HBW.out (by omega) (by omega) (by simp))
 go_upto_region 5 with (go_at_call 123;(with_reducible refine KA.out.mono ?_);rintro e m0 ⟨z0,rfl,ho,hb2,hs2⟩;have Op0:=hide ho;have Yp0:Hid (Below BB W4 m0):=hide (Y4.out.trans hb2);have Xp0:Hid (Ext w m0):=hide (XW4.out.below HB0.out Yp0.out);have Rp0:=hide (hs2 hb _ _ (by decide) R4.out);have Qp0:=hide (hs2 hq _ _ (by decide) Q4.out);clear ho hb2 hs2)
 clear R4 Q4 O4 KA
 clear c0 c1 c2 c3 c4 c5 c6 c7 c8 c9 q0 q1 q2 q3 q4
 have c0:=Rp0.out.cell (i:=0) rfl
 have c1:=Rp0.out.cell (i:=1) rfl
 have c2:=Rp0.out.cell (i:=2) rfl
 have c3:=Rp0.out.cell (i:=3) rfl
 have c4:=Rp0.out.cell (i:=4) rfl
 have c5:=Rp0.out.cell (i:=5) rfl
 have c6:=Rp0.out.cell (i:=6) rfl
 have c7:=Rp0.out.cell (i:=7) rfl
 have c8:=Rp0.out.cell (i:=8) rfl
 have c9:=Rp0.out.cell (i:=9) rfl
 have q0:=Qp0.out.cell (i:=0) rfl
 have q1:=Qp0.out.cell (i:=1) rfl
 have q2:=Qp0.out.cell (i:=2) rfl
 have q3:=Qp0.out.cell (i:=3) rfl
 have q4:=Qp0.out.cell (i:=4) rfl
 obtain ⟨l0,HEp0⟩:∃l,Hid ([] ++ numN 1 1=l):=⟨_,hide rfl⟩
 rw [HEp0.out] at Op0
 have HLp0:Hid (l0.length≤1):=hide (by rw [← HEp0.out,List.length_append,numN_length 1 _ (by decide)];simp)
 have KA:=hide (appendNumber_8 z0 l0 tx BB m0 Op0.out (Nat.le_trans HBW.out Yp0.out.size) HTX.out.1 HTX.out.2 (by have:=HLp0.out;omega))
 go_upto_region 6 with (go_at_call 123;(with_reducible refine KA.out.mono ?_);rintro e m1 ⟨z1,rfl,ho,hb2,hs2⟩;have Op1:=hide ho;have Yp1:Hid (Below BB W4 m1):=hide (Yp0.out.trans hb2);have Xp1:Hid (Ext w m1):=hide (XW4.out.below HB0.out Yp1.out);have Rp1:=hide (hs2 hb _ _ (by decide) Rp0.out);have Qp1:=hide (hs2 hq _ _ (by decide) Qp0.out);clear ho hb2 hs2)
 clear Rp0 Qp0 Op0 KA
 clear c0 c1 c2 c3 c4 c5 c6 c7 c8 c9 q0 q1 q2 q3 q4
 have c0:=Rp1.out.cell (i:=0) rfl
 have c1:=Rp1.out.cell (i:=1) rfl
 have c2:=Rp1.out.cell (i:=2) rfl
 have c3:=Rp1.out.cell (i:=3) rfl
 have c4:=Rp1.out.cell (i:=4) rfl
 have c5:=Rp1.out.cell (i:=5) rfl
 have c6:=Rp1.out.cell (i:=6) rfl
 have c7:=Rp1.out.cell (i:=7) rfl
 have c8:=Rp1.out.cell (i:=8) rfl
 have c9:=Rp1.out.cell (i:=9) rfl
 have q0:=Qp1.out.cell (i:=0) rfl
 have q1:=Qp1.out.cell (i:=1) rfl
 have q2:=Qp1.out.cell (i:=2) rfl
 have q3:=Qp1.out.cell (i:=3) rfl
 have q4:=Qp1.out.cell (i:=4) rfl
 obtain ⟨l1,HEp1⟩:∃l,Hid (l0 ++ numN 8 tx=l):=⟨_,hide rfl⟩
 rw [HEp1.out] at Op1
 have HLp1:Hid (l1.length≤9):=hide (by rw [← HEp1.out,List.length_append,numN_length 8 _ (by decide)];have:=HLp0.out;omega)
 have HREC:Hid (recB 1 tx pv pg off nx bf af L op=l1):=hide (by
  rw [← HEp1.out,← HEp0.out]
  simp [recB,hpv,hch,hnx,hck])
 obtain ⟨AZ,cz,hvz,hcz,hrz⟩:=Op1.out.bytes
 subst hvz
 obtain ⟨nz,HNZ⟩:∃n,Hid (l1.length=n):=⟨_,hide rfl⟩
 rw [HNZ.out] at Op1 ⊢
 have KS:=hide (rcsumOf_any AZ l1 nz cz m1 hrz HNZ.out (by have:=HNZ.out;have:=HLp1.out;omega) (HT.out.ext Xp1.out))
 clear hcz hrz
 go_wp2_with (first
  | (go_at_call 125;(with_reducible refine KS.out.mono ?_);rintro e ws ⟨vs,rfl,hxs,hos⟩;obtain ⟨AS,cs,hvs,hcs,hrs⟩:=Own.bytes hos;subst hvs;have XS:=hide hxs;have RS:=hide hrs;clear hxs hrs hos hcs)
  | (refine wpList_catGr rfl (.tmp 67) (.tmp 69) rfl BB (.slice AZ nz cz) l1 (sumB l1) AS _ cs rfl rfl rfl (Op1.out.ext XS.out) RS.out (Nat.le_trans (Nat.le_trans HBW.out Yp1.out.size) XS.out.size) (by rw [show (sumB l1).length=4 from numN_length 4 _ (by decide)];have:=HLp1.out;omega) ?_;intro vf wf ho hb2 hs2))
 go_ret2
 refine ⟨vf,rfl, ?_,XW4.out.below HB0.out ((Yp1.out.trans (Below.mono XS.out (Nat.le_trans HBW.out Yp1.out.size))).trans hb2)⟩
 rw [fullB,HREC.out]
 exact own_mono ho HB0.out
theorem encode_2 (tx pv pg off nx:Int) (A B D:Option Addr) (nb a na b' nd d:Nat) (op:Bool) (w:World) (bf af:List UInt8) (L:List (Int×Int)) (ht:Tab w) (hb0:Rd w A bf) (ha0:Rd w B af) (hr:RdD w D L) (hbn:bf.length=nb) (han:af.length=na) (hn:L.length=nd) (hnd:nd≤140737488351232) (hna:na≤140737488351232) (hnb:nb≤140737488351232) (ho: -9223372036854775808≤off) (ho2:off < 9223372036854775808) (htx0:0≤tx) (htx:tx < 18446744073709551616) (hpv0:0≤pv) (hpv1:pv < 18446744073709551616) (hnx0:0≤nx) (hnx1:nx < 18446744073709551616) (hdl:∀e∈L,0≤e.2∧e.2 < 18446744073709551616) (hf:formN 2 pv pg off nx na nb nd L op=true):
  Calls Tryz.prog 97 #[.agg #[.int .u8 2, .int .u64 tx, .int .u64 pv, .int .i64 pg, .int .i64 off, .slice A nb a, .slice B na b', .int .u64 nx, .slice D nd d, .bool op]] w (EncP w (fullB 2 tx pv pg off nx bf af L op)):=by
 have KF:=hide (fun (W:World) (hW:Ext w W)=>(show Calls Tryz.prog 121 #[.agg #[.int .u8 2, .int .u64 tx, .int .u64 pv, .int .i64 pg, .int .i64 off, .slice A nb a, .slice B na b', .int .u64 nx, .slice D nd d, .bool op]] W (RetB W true) from by have h:=form_any 2 tx pv pg off nx A B D nb a na b' nd d op W L (hr.ext hW) hn hnd hna hnb ho ho2;rw [hf] at h;exact h))
 have KP:=hide (fun (W:World)=>(show Calls Tryz.prog 122 #[.int .u8 2] W (fun e w' =>e= .returned (.tuple #[.agg #[.bool true, .bool true, .bool true, .bool false, .bool false], .bool true])∧Ext W w') from partsOf_any 2 W))
 obtain ⟨hpg0,hpg1,hn1,hno,hoff0,hnbE⟩:0≤pg∧pg < 4096∧na≤512∧off≤512∧0≤off∧nb≤512:=by
  simp [formN,hok,hpv,hch,hbf,hnx,hck,chgN,chkN,isPg] at hf
  omega
 have wpg:IntKind.u64.wrap pg=pg:=by rw [IntKind.wrap_u64];omega
 have woff:IntKind.u64.wrap off=off:=by rw [IntKind.wrap_u64];omega
 have wna:IntKind.u64.wrap (na:Int)=(na:Int):=by rw [IntKind.wrap_u64];omega
 have HT:=hide ht
 have HBF:=hide hb0
 have HAF:=hide ha0
 have HD:=hide hr
 have HBN:=hide hbn
 have HAN:=hide han
 have HN:=hide hn
 have HTX:=hide (And.intro htx0 htx)
 have HPV:=hide (And.intro hpv0 hpv1)
 have HNX:=hide (And.intro hnx0 hnx1)
 clear ht hb0 ha0 hr hbn han hn htx0 htx hpv0 hpv1 hnx0 hnx1 hdl hf ho ho2
 go_enter Tryz.func97,Tryz.ntmps97
 go_upto_region 1 with fail
 obtain ⟨W1,hX1,hR1,hg⟩:∃W1,Ext w W1∧Rw W1 w.heap.size 95 [.int .u8 2, .int .u64 tx, .int .u64 pv, .int .i64 pg, .int .i64 off, .slice A nb a, .slice B na b', .int .u64 nx, .slice D nd d, .bool op]∧w.alloc (.cells #[.int .u8 2, .int .u64 tx, .int .u64 pv, .int .i64 pg, .int .i64 off, .slice A nb a, .slice B na b', .int .u64 nx, .slice D nd d, .bool op] 95)=W1:=⟨_,Ext.alloc _ _,Rw.new _ _ _,rfl⟩
 rw [hg]
 obtain ⟨hb,HHB⟩:∃hb,Hid (w.heap.size=hb):=⟨_,hide rfl⟩
 rw [HHB.out] at hR1 ⊢
 have X1:=hide hX1
 have R1:=hide hR1
 have c0:=hR1.cell (i:=0) rfl
 have c1:=hR1.cell (i:=1) rfl
 have c2:=hR1.cell (i:=2) rfl
 have c3:=hR1.cell (i:=3) rfl
 have c4:=hR1.cell (i:=4) rfl
 have c5:=hR1.cell (i:=5) rfl
 have c6:=hR1.cell (i:=6) rfl
 have c7:=hR1.cell (i:=7) rfl
 have c8:=hR1.cell (i:=8) rfl
 have c9:=hR1.cell (i:=9) rfl
 clear hg hX1 hR1
 go_upto_region 3 with (go_at_call 121;(with_reducible refine (KF.out _ X1.out).mono ?_);rintro e w2 ⟨rfl,hx2⟩;have X2:=hide (X1.out.trans hx2);have R2:=hide (R1.out.ext hx2);clear hx2)
 clear c0 c1 c2 c3 c4 c5 c6 c7 c8 c9
 have c0:=R2.out.cell (i:=0) rfl
 go_upto_region 4 with (go_at_call 122;(with_reducible refine (KP.out _).mono ?_);rintro e w3 ⟨rfl,hx3⟩;have X3:=hide (X2.out.trans hx3);have R3:=hide (R2.out.ext hx3);clear hx3)
 clear c0
 obtain ⟨W4,hX4,hR4,hg⟩:∃W4,Ext w3 W4∧Rw W4 w3.heap.size 162 [.bool true, .bool true, .bool true, .bool false, .bool false]∧w3.alloc (.cells #[.bool true, .bool true, .bool true, .bool false, .bool false] 162)=W4:=⟨_,Ext.alloc _ _,Rw.new _ _ _,rfl⟩
 rw [hg]
 obtain ⟨hq,HHQ⟩:∃hq,Hid (w3.heap.size=hq):=⟨_,hide rfl⟩
 rw [HHQ.out] at hR4 ⊢
 have R4:=hide (R3.out.ext hX4)
 have Q4:=hide hR4
 obtain ⟨BB,HBB⟩:∃BB,Hid (W4.heap.size=BB):=⟨_,hide rfl⟩
 have XW4:=hide (X3.out.trans hX4)
 have HB0:Hid (w.heap.size≤BB):=hide (by rw [← HBB.out];exact XW4.out.size)
 have Y4:Hid (Below BB W4 W4):=hide (Below.refl _ _)
 have O4:Hid (Own W4 BB (.slice none 0 0) []):=hide (Own.nil _ _)
 have HBW:Hid (BB≤W4.heap.size):=hide (by rw [HBB.out];exact Nat.le_refl _)
 clear hg hX4 hR4 X1 X2 X3 R1 R2 R3 KF KP HHB HHQ
 have c0:=R4.out.cell (i:=0) rfl
 have c1:=R4.out.cell (i:=1) rfl
 have c2:=R4.out.cell (i:=2) rfl
 have c3:=R4.out.cell (i:=3) rfl
 have c4:=R4.out.cell (i:=4) rfl
 have c5:=R4.out.cell (i:=5) rfl
 have c6:=R4.out.cell (i:=6) rfl
 have c7:=R4.out.cell (i:=7) rfl
 have c8:=R4.out.cell (i:=8) rfl
 have c9:=R4.out.cell (i:=9) rfl
 have q0:=Q4.out.cell (i:=0) rfl
 have q1:=Q4.out.cell (i:=1) rfl
 have q2:=Q4.out.cell (i:=2) rfl
 have q3:=Q4.out.cell (i:=3) rfl
 have q4:=Q4.out.cell (i:=4) rfl
 have KA:=hide (appendNumber_1 (.slice none 0 0) [] 2 BB W4 O4.out HBW.out (by omega) (by omega) (by simp))
 go_upto_region 5 with (go_at_call 123;(with_reducible refine KA.out.mono ?_);rintro e m0 ⟨z0,rfl,ho,hb2,hs2⟩;have Op0:=hide ho;have Yp0:Hid (Below BB W4 m0):=hide (Y4.out.trans hb2);have Xp0:Hid (Ext w m0):=hide (XW4.out.below HB0.out Yp0.out);have Rp0:=hide (hs2 hb _ _ (by decide) R4.out);have Qp0:=hide (hs2 hq _ _ (by decide) Q4.out);clear ho hb2 hs2)
 clear R4 Q4 O4 KA
 clear c0 c1 c2 c3 c4 c5 c6 c7 c8 c9 q0 q1 q2 q3 q4
 have c0:=Rp0.out.cell (i:=0) rfl
 have c1:=Rp0.out.cell (i:=1) rfl
 have c2:=Rp0.out.cell (i:=2) rfl
 have c3:=Rp0.out.cell (i:=3) rfl
 have c4:=Rp0.out.cell (i:=4) rfl
 have c5:=Rp0.out.cell (i:=5) rfl
 have c6:=Rp0.out.cell (i:=6) rfl
 have c7:=Rp0.out.cell (i:=7) rfl
 have c8:=Rp0.out.cell (i:=8) rfl
 have c9:=Rp0.out.cell (i:=9) rfl
 have q0:=Qp0.out.cell (i:=0) rfl
 have q1:=Qp0.out.cell (i:=1) rfl
 have q2:=Qp0.out.cell (i:=2) rfl
 have q3:=Qp0.out.cell (i:=3) rfl
 have q4:=Qp0.out.cell (i:=4) rfl
 obtain ⟨l0,HEp0⟩:∃l,Hid ([] ++ numN 1 2=l):=⟨_,hide rfl⟩
 rw [HEp0.out] at Op0
 have HLp0:Hid (l0.length≤1):=hide (by rw [← HEp0.out,List.length_append,numN_length 1 _ (by decide)];simp)
 have KA:=hide (appendNumber_8 z0 l0 tx BB m0 Op0.out (Nat.le_trans HBW.out Yp0.out.size) HTX.out.1 HTX.out.2 (by have:=HLp0.out;omega))
 go_upto_region 6 with (go_at_call 123;(with_reducible refine KA.out.mono ?_);rintro e m1 ⟨z1,rfl,ho,hb2,hs2⟩;have Op1:=hide ho;have Yp1:Hid (Below BB W4 m1):=hide (Yp0.out.trans hb2);have Xp1:Hid (Ext w m1):=hide (XW4.out.below HB0.out Yp1.out);have Rp1:=hide (hs2 hb _ _ (by decide) Rp0.out);have Qp1:=hide (hs2 hq _ _ (by decide) Qp0.out);clear ho hb2 hs2)
 clear Rp0 Qp0 Op0 KA
 clear c0 c1 c2 c3 c4 c5 c6 c7 c8 c9 q0 q1 q2 q3 q4
 have c0:=Rp1.out.cell (i:=0) rfl
 have c1:=Rp1.out.cell (i:=1) rfl
 have c2:=Rp1.out.cell (i:=2) rfl
 have c3:=Rp1.out.cell (i:=3) rfl
 have c4:=Rp1.out.cell (i:=4) rfl
 have c5:=Rp1.out.cell (i:=5) rfl
 have c6:=Rp1.out.cell (i:=6) rfl
 have c7:=Rp1.out.cell (i:=7) rfl
 have c8:=Rp1.out.cell (i:=8) rfl
 have c9:=Rp1.out.cell (i:=9) rfl
 have q0:=Qp1.out.cell (i:=0) rfl
 have q1:=Qp1.out.cell (i:=1) rfl
 have q2:=Qp1.out.cell (i:=2) rfl
 have q3:=Qp1.out.cell (i:=3) rfl
 have q4:=Qp1.out.cell (i:=4) rfl
 obtain ⟨l1,HEp1⟩:∃l,Hid (l0 ++ numN 8 tx=l):=⟨_,hide rfl⟩
 rw [HEp1.out] at Op1
 have HLp1:Hid (l1.length≤9):=hide (by rw [← HEp1.out,List.length_append,numN_length 8 _ (by decide)];have:=HLp0.out;omega)
 have KA:=hide (appendNumber_8 z1 l1 pv BB m1 Op1.out (Nat.le_trans HBW.out Yp1.out.size) HPV.out.1 HPV.out.2 (by have:=HLp1.out;omega))
 go_upto_region 8 with (go_at_call 123;(with_reducible refine KA.out.mono ?_);rintro e m2 ⟨z2,rfl,ho,hb2,hs2⟩;have Op2:=hide ho;have Yp2:Hid (Below BB W4 m2):=hide (Yp1.out.trans hb2);have Xp2:Hid (Ext w m2):=hide (XW4.out.below HB0.out Yp2.out);have Rp2:=hide (hs2 hb _ _ (by decide) Rp1.out);have Qp2:=hide (hs2 hq _ _ (by decide) Qp1.out);clear ho hb2 hs2)
 clear Rp1 Qp1 Op1 KA
 clear c0 c1 c2 c3 c4 c5 c6 c7 c8 c9 q0 q1 q2 q3 q4
 have c0:=Rp2.out.cell (i:=0) rfl
 have c1:=Rp2.out.cell (i:=1) rfl
 have c2:=Rp2.out.cell (i:=2) rfl
 have c3:=Rp2.out.cell (i:=3) rfl
 have c4:=Rp2.out.cell (i:=4) rfl
 have c5:=Rp2.out.cell (i:=5) rfl
 have c6:=Rp2.out.cell (i:=6) rfl
 have c7:=Rp2.out.cell (i:=7) rfl
 have c8:=Rp2.out.cell (i:=8) rfl
 have c9:=Rp2.out.cell (i:=9) rfl
 have q0:=Qp2.out.cell (i:=0) rfl
 have q1:=Qp2.out.cell (i:=1) rfl
 have q2:=Qp2.out.cell (i:=2) rfl
 have q3:=Qp2.out.cell (i:=3) rfl
 have q4:=Qp2.out.cell (i:=4) rfl
 obtain ⟨l2,HEp2⟩:∃l,Hid (l1 ++ numN 8 pv=l):=⟨_,hide rfl⟩
 rw [HEp2.out] at Op2
 have HLp2:Hid (l2.length≤17):=hide (by rw [← HEp2.out,List.length_append,numN_length 8 _ (by decide)];have:=HLp1.out;omega)
 have KA:=hide (appendNumber_2 z2 l2 pg BB m2 Op2.out (Nat.le_trans HBW.out Yp2.out.size) (by omega) (by omega) (by have:=HLp2.out;omega))
 go_upto_region 10 with (go_at_call 123;(with_reducible refine KA.out.mono ?_);rintro e m3 ⟨z3,rfl,ho,hb2,hs2⟩;have Op3:=hide ho;have Yp3:Hid (Below BB W4 m3):=hide (Yp2.out.trans hb2);have Xp3:Hid (Ext w m3):=hide (XW4.out.below HB0.out Yp3.out);have Rp3:=hide (hs2 hb _ _ (by decide) Rp2.out);have Qp3:=hide (hs2 hq _ _ (by decide) Qp2.out);clear ho hb2 hs2)
 clear Rp2 Qp2 Op2 KA
 clear c0 c1 c2 c3 c4 c5 c6 c7 c8 c9 q0 q1 q2 q3 q4
 have c0:=Rp3.out.cell (i:=0) rfl
 have c1:=Rp3.out.cell (i:=1) rfl
 have c2:=Rp3.out.cell (i:=2) rfl
 have c3:=Rp3.out.cell (i:=3) rfl
 have c4:=Rp3.out.cell (i:=4) rfl
 have c5:=Rp3.out.cell (i:=5) rfl
 have c6:=Rp3.out.cell (i:=6) rfl
 have c7:=Rp3.out.cell (i:=7) rfl
 have c8:=Rp3.out.cell (i:=8) rfl
 have c9:=Rp3.out.cell (i:=9) rfl
 have q0:=Qp3.out.cell (i:=0) rfl
 have q1:=Qp3.out.cell (i:=1) rfl
 have q2:=Qp3.out.cell (i:=2) rfl
 have q3:=Qp3.out.cell (i:=3) rfl
 have q4:=Qp3.out.cell (i:=4) rfl
 obtain ⟨l3,HEp3⟩:∃l,Hid (l2 ++ numN 2 pg=l):=⟨_,hide rfl⟩
 rw [HEp3.out] at Op3
 have HLp3:Hid (l3.length≤19):=hide (by rw [← HEp3.out,List.length_append,numN_length 2 _ (by decide)];have:=HLp2.out;omega)
 have KA:=hide (appendNumber_2 z3 l3 off BB m3 Op3.out (Nat.le_trans HBW.out Yp3.out.size) (by omega) (by omega) (by have:=HLp3.out;omega))
 go_upto_region 11 with (go_at_call 123;(with_reducible refine KA.out.mono ?_);rintro e m4 ⟨z4,rfl,ho,hb2,hs2⟩;have Op4:=hide ho;have Yp4:Hid (Below BB W4 m4):=hide (Yp3.out.trans hb2);have Xp4:Hid (Ext w m4):=hide (XW4.out.below HB0.out Yp4.out);have Rp4:=hide (hs2 hb _ _ (by decide) Rp3.out);have Qp4:=hide (hs2 hq _ _ (by decide) Qp3.out);clear ho hb2 hs2)
 clear Rp3 Qp3 Op3 KA
 clear c0 c1 c2 c3 c4 c5 c6 c7 c8 c9 q0 q1 q2 q3 q4
 have c0:=Rp4.out.cell (i:=0) rfl
 have c1:=Rp4.out.cell (i:=1) rfl
 have c2:=Rp4.out.cell (i:=2) rfl
 have c3:=Rp4.out.cell (i:=3) rfl
 have c4:=Rp4.out.cell (i:=4) rfl
 have c5:=Rp4.out.cell (i:=5) rfl
 have c6:=Rp4.out.cell (i:=6) rfl
 have c7:=Rp4.out.cell (i:=7) rfl
 have c8:=Rp4.out.cell (i:=8) rfl
 have c9:=Rp4.out.cell (i:=9) rfl
 have q0:=Qp4.out.cell (i:=0) rfl
 have q1:=Qp4.out.cell (i:=1) rfl
 have q2:=Qp4.out.cell (i:=2) rfl
 have q3:=Qp4.out.cell (i:=3) rfl
 have q4:=Qp4.out.cell (i:=4) rfl
 obtain ⟨l4,HEp4⟩:∃l,Hid (l3 ++ numN 2 off=l):=⟨_,hide rfl⟩
 rw [HEp4.out] at Op4
 have HLp4:Hid (l4.length≤21):=hide (by rw [← HEp4.out,List.length_append,numN_length 2 _ (by decide)];have:=HLp3.out;omega)
 have KA:=hide (appendNumber_2 z4 l4 (na:Int) BB m4 Op4.out (Nat.le_trans HBW.out Yp4.out.size) (by omega) (by omega) (by have:=HLp4.out;omega))
 go_upto_region 12 with (go_at_call 123;(with_reducible refine KA.out.mono ?_);rintro e m5 ⟨z5,rfl,ho,hb2,hs2⟩;have Op5:=hide ho;have Yp5:Hid (Below BB W4 m5):=hide (Yp4.out.trans hb2);have Xp5:Hid (Ext w m5):=hide (XW4.out.below HB0.out Yp5.out);have Rp5:=hide (hs2 hb _ _ (by decide) Rp4.out);have Qp5:=hide (hs2 hq _ _ (by decide) Qp4.out);clear ho hb2 hs2)
 clear Rp4 Qp4 Op4 KA
 clear c0 c1 c2 c3 c4 c5 c6 c7 c8 c9 q0 q1 q2 q3 q4
 have c0:=Rp5.out.cell (i:=0) rfl
 have c1:=Rp5.out.cell (i:=1) rfl
 have c2:=Rp5.out.cell (i:=2) rfl
 have c3:=Rp5.out.cell (i:=3) rfl
 have c4:=Rp5.out.cell (i:=4) rfl
 have c5:=Rp5.out.cell (i:=5) rfl
 have c6:=Rp5.out.cell (i:=6) rfl
 have c7:=Rp5.out.cell (i:=7) rfl
 have c8:=Rp5.out.cell (i:=8) rfl
 have c9:=Rp5.out.cell (i:=9) rfl
 have q0:=Qp5.out.cell (i:=0) rfl
 have q1:=Qp5.out.cell (i:=1) rfl
 have q2:=Qp5.out.cell (i:=2) rfl
 have q3:=Qp5.out.cell (i:=3) rfl
 have q4:=Qp5.out.cell (i:=4) rfl
 obtain ⟨l5,HEp5⟩:∃l,Hid (l4 ++ numN 2 (na:Int)=l):=⟨_,hide rfl⟩
 rw [HEp5.out] at Op5
 have HLp5:Hid (l5.length≤23):=hide (by rw [← HEp5.out,List.length_append,numN_length 2 _ (by decide)];have:=HLp4.out;omega)
 go_upto_region 13 with (refine wpList_catGr rfl (.tmp 48) (.tmp 50) rfl BB z5 l5 bf A nb a rfl rfl HBN.out.symm Op5.out (HBF.out.ext Xp5.out) (Nat.le_trans HBW.out Yp5.out.size) (by rw [HBN.out];have:=HLp5.out;omega) ?_;intro z6 m6 ho hb2 hs2;have Op6:=hide ho;have Yp6:Hid (Below BB W4 m6):=hide (Yp5.out.trans hb2);have Xp6:Hid (Ext w m6):=hide (XW4.out.below HB0.out Yp6.out);have Rp6:=hide (hs2 hb _ _ (by decide) Rp5.out);have Qp6:=hide (hs2 hq _ _ (by decide) Qp5.out);clear ho hb2 hs2)
 clear Rp5 Qp5 Op5
 clear c0 c1 c2 c3 c4 c5 c6 c7 c8 c9 q0 q1 q2 q3 q4
 have c0:=Rp6.out.cell (i:=0) rfl
 have c1:=Rp6.out.cell (i:=1) rfl
 have c2:=Rp6.out.cell (i:=2) rfl
 have c3:=Rp6.out.cell (i:=3) rfl
 have c4:=Rp6.out.cell (i:=4) rfl
 have c5:=Rp6.out.cell (i:=5) rfl
 have c6:=Rp6.out.cell (i:=6) rfl
 have c7:=Rp6.out.cell (i:=7) rfl
 have c8:=Rp6.out.cell (i:=8) rfl
 have c9:=Rp6.out.cell (i:=9) rfl
 have q0:=Qp6.out.cell (i:=0) rfl
 have q1:=Qp6.out.cell (i:=1) rfl
 have q2:=Qp6.out.cell (i:=2) rfl
 have q3:=Qp6.out.cell (i:=3) rfl
 have q4:=Qp6.out.cell (i:=4) rfl
 obtain ⟨l6,HEp6⟩:∃l,Hid (l5 ++ bf=l):=⟨_,hide rfl⟩
 rw [HEp6.out] at Op6
 have HLp6:Hid (l6.length≤535):=hide (by rw [← HEp6.out,List.length_append,HBN.out];have:=HLp5.out;omega)
 go_upto_region 14 with (refine wpList_catGr rfl (.tmp 52) (.tmp 54) rfl BB z6 l6 af B na b' rfl rfl HAN.out.symm Op6.out (HAF.out.ext Xp6.out) (Nat.le_trans HBW.out Yp6.out.size) (by rw [HAN.out];have:=HLp6.out;omega) ?_;intro z7 m7 ho hb2 hs2;have Op7:=hide ho;have Yp7:Hid (Below BB W4 m7):=hide (Yp6.out.trans hb2);have Xp7:Hid (Ext w m7):=hide (XW4.out.below HB0.out Yp7.out);have Rp7:=hide (hs2 hb _ _ (by decide) Rp6.out);have Qp7:=hide (hs2 hq _ _ (by decide) Qp6.out);clear ho hb2 hs2)
 clear Rp6 Qp6 Op6
 clear c0 c1 c2 c3 c4 c5 c6 c7 c8 c9 q0 q1 q2 q3 q4
 have c0:=Rp7.out.cell (i:=0) rfl
 have c1:=Rp7.out.cell (i:=1) rfl
 have c2:=Rp7.out.cell (i:=2) rfl
 have c3:=Rp7.out.cell (i:=3) rfl
 have c4:=Rp7.out.cell (i:=4) rfl
 have c5:=Rp7.out.cell (i:=5) rfl
 have c6:=Rp7.out.cell (i:=6) rfl
 have c7:=Rp7.out.cell (i:=7) rfl
 have c8:=Rp7.out.cell (i:=8) rfl
 have c9:=Rp7.out.cell (i:=9) rfl
 have q0:=Qp7.out.cell (i:=0) rfl
 have q1:=Qp7.out.cell (i:=1) rfl
 have q2:=Qp7.out.cell (i:=2) rfl
 have q3:=Qp7.out.cell (i:=3) rfl
 have q4:=Qp7.out.cell (i:=4) rfl
 obtain ⟨l7,HEp7⟩:∃l,Hid (l6 ++ af=l):=⟨_,hide rfl⟩
 rw [HEp7.out] at Op7
 have HLp7:Hid (l7.length≤1047):=hide (by rw [← HEp7.out,List.length_append,HAN.out];have:=HLp6.out;omega)
 have HREC:Hid (recB 2 tx pv pg off nx bf af L op=l7):=hide (by
  rw [← HEp7.out,← HEp6.out,← HEp5.out,← HEp4.out,← HEp3.out,← HEp2.out,← HEp1.out,← HEp0.out]
  simp [recB,hpv,hch,hnx,hck,HAN.out])
 obtain ⟨AZ,cz,hvz,hcz,hrz⟩:=Op7.out.bytes
 subst hvz
 obtain ⟨nz,HNZ⟩:∃n,Hid (l7.length=n):=⟨_,hide rfl⟩
 rw [HNZ.out] at Op7 ⊢
 have KS:=hide (rcsumOf_any AZ l7 nz cz m7 hrz HNZ.out (by have:=HNZ.out;have:=HLp7.out;omega) (HT.out.ext Xp7.out))
 clear hcz hrz
 go_wp2_with (first
  | (go_at_call 125;(with_reducible refine KS.out.mono ?_);rintro e ws ⟨vs,rfl,hxs,hos⟩;obtain ⟨AS,cs,hvs,hcs,hrs⟩:=Own.bytes hos;subst hvs;have XS:=hide hxs;have RS:=hide hrs;clear hxs hrs hos hcs)
  | (refine wpList_catGr rfl (.tmp 67) (.tmp 69) rfl BB (.slice AZ nz cz) l7 (sumB l7) AS _ cs rfl rfl rfl (Op7.out.ext XS.out) RS.out (Nat.le_trans (Nat.le_trans HBW.out Yp7.out.size) XS.out.size) (by rw [show (sumB l7).length=4 from numN_length 4 _ (by decide)];have:=HLp7.out;omega) ?_;intro vf wf ho hb2 hs2))
 go_ret2
 refine ⟨vf,rfl, ?_,XW4.out.below HB0.out ((Yp7.out.trans (Below.mono XS.out (Nat.le_trans HBW.out Yp7.out.size))).trans hb2)⟩
 rw [fullB,HREC.out]
 exact own_mono ho HB0.out
theorem encode_3 (tx pv pg off nx:Int) (A B D:Option Addr) (nb a na b' nd d:Nat) (op:Bool) (w:World) (bf af:List UInt8) (L:List (Int×Int)) (ht:Tab w) (hb0:Rd w A bf) (ha0:Rd w B af) (hr:RdD w D L) (hbn:bf.length=nb) (han:af.length=na) (hn:L.length=nd) (hnd:nd≤140737488351232) (hna:na≤140737488351232) (hnb:nb≤140737488351232) (ho: -9223372036854775808≤off) (ho2:off < 9223372036854775808) (htx0:0≤tx) (htx:tx < 18446744073709551616) (hpv0:0≤pv) (hpv1:pv < 18446744073709551616) (hnx0:0≤nx) (hnx1:nx < 18446744073709551616) (hdl:∀e∈L,0≤e.2∧e.2 < 18446744073709551616) (hf:formN 3 pv pg off nx na nb nd L op=true):
  Calls Tryz.prog 97 #[.agg #[.int .u8 3, .int .u64 tx, .int .u64 pv, .int .i64 pg, .int .i64 off, .slice A nb a, .slice B na b', .int .u64 nx, .slice D nd d, .bool op]] w (EncP w (fullB 3 tx pv pg off nx bf af L op)):=by
 have KF:=hide (fun (W:World) (hW:Ext w W)=>(show Calls Tryz.prog 121 #[.agg #[.int .u8 3, .int .u64 tx, .int .u64 pv, .int .i64 pg, .int .i64 off, .slice A nb a, .slice B na b', .int .u64 nx, .slice D nd d, .bool op]] W (RetB W true) from by have h:=form_any 3 tx pv pg off nx A B D nb a na b' nd d op W L (hr.ext hW) hn hnd hna hnb ho ho2;rw [hf] at h;exact h))
 have KP:=hide (fun (W:World)=>(show Calls Tryz.prog 122 #[.int .u8 3] W (fun e w' =>e= .returned (.tuple #[.agg #[.bool true, .bool true, .bool false, .bool true, .bool false], .bool true])∧Ext W w') from partsOf_any 3 W))
 obtain ⟨hpg0,hpg1,hn1,hno,hoff0,hnbE⟩:0≤pg∧pg < 4096∧na≤512∧off≤512∧0≤off∧nb≤512:=by
  simp [formN,hok,hpv,hch,hbf,hnx,hck,chgN,chkN,isPg] at hf
  omega
 have wpg:IntKind.u64.wrap pg=pg:=by rw [IntKind.wrap_u64];omega
 have woff:IntKind.u64.wrap off=off:=by rw [IntKind.wrap_u64];omega
 have wna:IntKind.u64.wrap (na:Int)=(na:Int):=by rw [IntKind.wrap_u64];omega
 have HT:=hide ht
 have HBF:=hide hb0
 have HAF:=hide ha0
 have HD:=hide hr
 have HBN:=hide hbn
 have HAN:=hide han
 have HN:=hide hn
 have HTX:=hide (And.intro htx0 htx)
 have HPV:=hide (And.intro hpv0 hpv1)
 have HNX:=hide (And.intro hnx0 hnx1)
 clear ht hb0 ha0 hr hbn han hn htx0 htx hpv0 hpv1 hnx0 hnx1 hdl hf ho ho2
 go_enter Tryz.func97,Tryz.ntmps97
 go_upto_region 1 with fail
 obtain ⟨W1,hX1,hR1,hg⟩:∃W1,Ext w W1∧Rw W1 w.heap.size 95 [.int .u8 3, .int .u64 tx, .int .u64 pv, .int .i64 pg, .int .i64 off, .slice A nb a, .slice B na b', .int .u64 nx, .slice D nd d, .bool op]∧w.alloc (.cells #[.int .u8 3, .int .u64 tx, .int .u64 pv, .int .i64 pg, .int .i64 off, .slice A nb a, .slice B na b', .int .u64 nx, .slice D nd d, .bool op] 95)=W1:=⟨_,Ext.alloc _ _,Rw.new _ _ _,rfl⟩
 rw [hg]
 obtain ⟨hb,HHB⟩:∃hb,Hid (w.heap.size=hb):=⟨_,hide rfl⟩
 rw [HHB.out] at hR1 ⊢
 have X1:=hide hX1
 have R1:=hide hR1
 have c0:=hR1.cell (i:=0) rfl
 have c1:=hR1.cell (i:=1) rfl
 have c2:=hR1.cell (i:=2) rfl
 have c3:=hR1.cell (i:=3) rfl
 have c4:=hR1.cell (i:=4) rfl
 have c5:=hR1.cell (i:=5) rfl
 have c6:=hR1.cell (i:=6) rfl
 have c7:=hR1.cell (i:=7) rfl
 have c8:=hR1.cell (i:=8) rfl
 have c9:=hR1.cell (i:=9) rfl
 clear hg hX1 hR1
 go_upto_region 3 with (go_at_call 121;(with_reducible refine (KF.out _ X1.out).mono ?_);rintro e w2 ⟨rfl,hx2⟩;have X2:=hide (X1.out.trans hx2);have R2:=hide (R1.out.ext hx2);clear hx2)
 clear c0 c1 c2 c3 c4 c5 c6 c7 c8 c9
 have c0:=R2.out.cell (i:=0) rfl
 go_upto_region 4 with (go_at_call 122;(with_reducible refine (KP.out _).mono ?_);rintro e w3 ⟨rfl,hx3⟩;have X3:=hide (X2.out.trans hx3);have R3:=hide (R2.out.ext hx3);clear hx3)
 clear c0
 obtain ⟨W4,hX4,hR4,hg⟩:∃W4,Ext w3 W4∧Rw W4 w3.heap.size 162 [.bool true, .bool true, .bool false, .bool true, .bool false]∧w3.alloc (.cells #[.bool true, .bool true, .bool false, .bool true, .bool false] 162)=W4:=⟨_,Ext.alloc _ _,Rw.new _ _ _,rfl⟩
 rw [hg]
 obtain ⟨hq,HHQ⟩:∃hq,Hid (w3.heap.size=hq):=⟨_,hide rfl⟩
 rw [HHQ.out] at hR4 ⊢
 have R4:=hide (R3.out.ext hX4)
 have Q4:=hide hR4
 obtain ⟨BB,HBB⟩:∃BB,Hid (W4.heap.size=BB):=⟨_,hide rfl⟩
 have XW4:=hide (X3.out.trans hX4)
 have HB0:Hid (w.heap.size≤BB):=hide (by rw [← HBB.out];exact XW4.out.size)
 have Y4:Hid (Below BB W4 W4):=hide (Below.refl _ _)
 have O4:Hid (Own W4 BB (.slice none 0 0) []):=hide (Own.nil _ _)
 have HBW:Hid (BB≤W4.heap.size):=hide (by rw [HBB.out];exact Nat.le_refl _)
 clear hg hX4 hR4 X1 X2 X3 R1 R2 R3 KF KP HHB HHQ
 have c0:=R4.out.cell (i:=0) rfl
 have c1:=R4.out.cell (i:=1) rfl
 have c2:=R4.out.cell (i:=2) rfl
 have c3:=R4.out.cell (i:=3) rfl
 have c4:=R4.out.cell (i:=4) rfl
 have c5:=R4.out.cell (i:=5) rfl
 have c6:=R4.out.cell (i:=6) rfl
 have c7:=R4.out.cell (i:=7) rfl
 have c8:=R4.out.cell (i:=8) rfl
 have c9:=R4.out.cell (i:=9) rfl
 have q0:=Q4.out.cell (i:=0) rfl
 have q1:=Q4.out.cell (i:=1) rfl
 have q2:=Q4.out.cell (i:=2) rfl
 have q3:=Q4.out.cell (i:=3) rfl
 have q4:=Q4.out.cell (i:=4) rfl
 have KA:=hide (appendNumber_1 (.slice none 0 0) [] 3 BB W4 O4.out HBW.out (by omega) (by omega) (by simp))
 go_upto_region 5 with (go_at_call 123;(with_reducible refine KA.out.mono ?_);rintro e m0 ⟨z0,rfl,ho,hb2,hs2⟩;have Op0:=hide ho;have Yp0:Hid (Below BB W4 m0):=hide (Y4.out.trans hb2);have Xp0:Hid (Ext w m0):=hide (XW4.out.below HB0.out Yp0.out);have Rp0:=hide (hs2 hb _ _ (by decide) R4.out);have Qp0:=hide (hs2 hq _ _ (by decide) Q4.out);clear ho hb2 hs2)
 clear R4 Q4 O4 KA
 clear c0 c1 c2 c3 c4 c5 c6 c7 c8 c9 q0 q1 q2 q3 q4
 have c0:=Rp0.out.cell (i:=0) rfl
 have c1:=Rp0.out.cell (i:=1) rfl
 have c2:=Rp0.out.cell (i:=2) rfl
 have c3:=Rp0.out.cell (i:=3) rfl
 have c4:=Rp0.out.cell (i:=4) rfl
 have c5:=Rp0.out.cell (i:=5) rfl
 have c6:=Rp0.out.cell (i:=6) rfl
 have c7:=Rp0.out.cell (i:=7) rfl
 have c8:=Rp0.out.cell (i:=8) rfl
 have c9:=Rp0.out.cell (i:=9) rfl
 have q0:=Qp0.out.cell (i:=0) rfl
 have q1:=Qp0.out.cell (i:=1) rfl
 have q2:=Qp0.out.cell (i:=2) rfl
 have q3:=Qp0.out.cell (i:=3) rfl
 have q4:=Qp0.out.cell (i:=4) rfl
 obtain ⟨l0,HEp0⟩:∃l,Hid ([] ++ numN 1 3=l):=⟨_,hide rfl⟩
 rw [HEp0.out] at Op0
 have HLp0:Hid (l0.length≤1):=hide (by rw [← HEp0.out,List.length_append,numN_length 1 _ (by decide)];simp)
 have KA:=hide (appendNumber_8 z0 l0 tx BB m0 Op0.out (Nat.le_trans HBW.out Yp0.out.size) HTX.out.1 HTX.out.2 (by have:=HLp0.out;omega))
 go_upto_region 6 with (go_at_call 123;(with_reducible refine KA.out.mono ?_);rintro e m1 ⟨z1,rfl,ho,hb2,hs2⟩;have Op1:=hide ho;have Yp1:Hid (Below BB W4 m1):=hide (Yp0.out.trans hb2);have Xp1:Hid (Ext w m1):=hide (XW4.out.below HB0.out Yp1.out);have Rp1:=hide (hs2 hb _ _ (by decide) Rp0.out);have Qp1:=hide (hs2 hq _ _ (by decide) Qp0.out);clear ho hb2 hs2)
 clear Rp0 Qp0 Op0 KA
 clear c0 c1 c2 c3 c4 c5 c6 c7 c8 c9 q0 q1 q2 q3 q4
 have c0:=Rp1.out.cell (i:=0) rfl
 have c1:=Rp1.out.cell (i:=1) rfl
 have c2:=Rp1.out.cell (i:=2) rfl
 have c3:=Rp1.out.cell (i:=3) rfl
 have c4:=Rp1.out.cell (i:=4) rfl
 have c5:=Rp1.out.cell (i:=5) rfl
 have c6:=Rp1.out.cell (i:=6) rfl
 have c7:=Rp1.out.cell (i:=7) rfl
 have c8:=Rp1.out.cell (i:=8) rfl
 have c9:=Rp1.out.cell (i:=9) rfl
 have q0:=Qp1.out.cell (i:=0) rfl
 have q1:=Qp1.out.cell (i:=1) rfl
 have q2:=Qp1.out.cell (i:=2) rfl
 have q3:=Qp1.out.cell (i:=3) rfl
 have q4:=Qp1.out.cell (i:=4) rfl
 obtain ⟨l1,HEp1⟩:∃l,Hid (l0 ++ numN 8 tx=l):=⟨_,hide rfl⟩
 rw [HEp1.out] at Op1
 have HLp1:Hid (l1.length≤9):=hide (by rw [← HEp1.out,List.length_append,numN_length 8 _ (by decide)];have:=HLp0.out;omega)
 have KA:=hide (appendNumber_8 z1 l1 pv BB m1 Op1.out (Nat.le_trans HBW.out Yp1.out.size) HPV.out.1 HPV.out.2 (by have:=HLp1.out;omega))
 go_upto_region 8 with (go_at_call 123;(with_reducible refine KA.out.mono ?_);rintro e m2 ⟨z2,rfl,ho,hb2,hs2⟩;have Op2:=hide ho;have Yp2:Hid (Below BB W4 m2):=hide (Yp1.out.trans hb2);have Xp2:Hid (Ext w m2):=hide (XW4.out.below HB0.out Yp2.out);have Rp2:=hide (hs2 hb _ _ (by decide) Rp1.out);have Qp2:=hide (hs2 hq _ _ (by decide) Qp1.out);clear ho hb2 hs2)
 clear Rp1 Qp1 Op1 KA
 clear c0 c1 c2 c3 c4 c5 c6 c7 c8 c9 q0 q1 q2 q3 q4
 have c0:=Rp2.out.cell (i:=0) rfl
 have c1:=Rp2.out.cell (i:=1) rfl
 have c2:=Rp2.out.cell (i:=2) rfl
 have c3:=Rp2.out.cell (i:=3) rfl
 have c4:=Rp2.out.cell (i:=4) rfl
 have c5:=Rp2.out.cell (i:=5) rfl
 have c6:=Rp2.out.cell (i:=6) rfl
 have c7:=Rp2.out.cell (i:=7) rfl
 have c8:=Rp2.out.cell (i:=8) rfl
 have c9:=Rp2.out.cell (i:=9) rfl
 have q0:=Qp2.out.cell (i:=0) rfl
 have q1:=Qp2.out.cell (i:=1) rfl
 have q2:=Qp2.out.cell (i:=2) rfl
 have q3:=Qp2.out.cell (i:=3) rfl
 have q4:=Qp2.out.cell (i:=4) rfl
 obtain ⟨l2,HEp2⟩:∃l,Hid (l1 ++ numN 8 pv=l):=⟨_,hide rfl⟩
 rw [HEp2.out] at Op2
 have HLp2:Hid (l2.length≤17):=hide (by rw [← HEp2.out,List.length_append,numN_length 8 _ (by decide)];have:=HLp1.out;omega)
 have KA:=hide (appendNumber_2 z2 l2 pg BB m2 Op2.out (Nat.le_trans HBW.out Yp2.out.size) (by omega) (by omega) (by have:=HLp2.out;omega))
 go_upto_region 10 with (go_at_call 123;(with_reducible refine KA.out.mono ?_);rintro e m3 ⟨z3,rfl,ho,hb2,hs2⟩;have Op3:=hide ho;have Yp3:Hid (Below BB W4 m3):=hide (Yp2.out.trans hb2);have Xp3:Hid (Ext w m3):=hide (XW4.out.below HB0.out Yp3.out);have Rp3:=hide (hs2 hb _ _ (by decide) Rp2.out);have Qp3:=hide (hs2 hq _ _ (by decide) Qp2.out);clear ho hb2 hs2)
 clear Rp2 Qp2 Op2 KA
 clear c0 c1 c2 c3 c4 c5 c6 c7 c8 c9 q0 q1 q2 q3 q4
 have c0:=Rp3.out.cell (i:=0) rfl
 have c1:=Rp3.out.cell (i:=1) rfl
 have c2:=Rp3.out.cell (i:=2) rfl
 have c3:=Rp3.out.cell (i:=3) rfl
 have c4:=Rp3.out.cell (i:=4) rfl
 have c5:=Rp3.out.cell (i:=5) rfl
 have c6:=Rp3.out.cell (i:=6) rfl
 have c7:=Rp3.out.cell (i:=7) rfl
 have c8:=Rp3.out.cell (i:=8) rfl
 have c9:=Rp3.out.cell (i:=9) rfl
 have q0:=Qp3.out.cell (i:=0) rfl
 have q1:=Qp3.out.cell (i:=1) rfl
 have q2:=Qp3.out.cell (i:=2) rfl
 have q3:=Qp3.out.cell (i:=3) rfl
 have q4:=Qp3.out.cell (i:=4) rfl
 obtain ⟨l3,HEp3⟩:∃l,Hid (l2 ++ numN 2 pg=l):=⟨_,hide rfl⟩
 rw [HEp3.out] at Op3
 have HLp3:Hid (l3.length≤19):=hide (by rw [← HEp3.out,List.length_append,numN_length 2 _ (by decide)];have:=HLp2.out;omega)
 have KA:=hide (appendNumber_2 z3 l3 off BB m3 Op3.out (Nat.le_trans HBW.out Yp3.out.size) (by omega) (by omega) (by have:=HLp3.out;omega))
 go_upto_region 11 with (go_at_call 123;(with_reducible refine KA.out.mono ?_);rintro e m4 ⟨z4,rfl,ho,hb2,hs2⟩;have Op4:=hide ho;have Yp4:Hid (Below BB W4 m4):=hide (Yp3.out.trans hb2);have Xp4:Hid (Ext w m4):=hide (XW4.out.below HB0.out Yp4.out);have Rp4:=hide (hs2 hb _ _ (by decide) Rp3.out);have Qp4:=hide (hs2 hq _ _ (by decide) Qp3.out);clear ho hb2 hs2)
 clear Rp3 Qp3 Op3 KA
 clear c0 c1 c2 c3 c4 c5 c6 c7 c8 c9 q0 q1 q2 q3 q4
 have c0:=Rp4.out.cell (i:=0) rfl
 have c1:=Rp4.out.cell (i:=1) rfl
 have c2:=Rp4.out.cell (i:=2) rfl
 have c3:=Rp4.out.cell (i:=3) rfl
 have c4:=Rp4.out.cell (i:=4) rfl
 have c5:=Rp4.out.cell (i:=5) rfl
 have c6:=Rp4.out.cell (i:=6) rfl
 have c7:=Rp4.out.cell (i:=7) rfl
 have c8:=Rp4.out.cell (i:=8) rfl
 have c9:=Rp4.out.cell (i:=9) rfl
 have q0:=Qp4.out.cell (i:=0) rfl
 have q1:=Qp4.out.cell (i:=1) rfl
 have q2:=Qp4.out.cell (i:=2) rfl
 have q3:=Qp4.out.cell (i:=3) rfl
 have q4:=Qp4.out.cell (i:=4) rfl
 obtain ⟨l4,HEp4⟩:∃l,Hid (l3 ++ numN 2 off=l):=⟨_,hide rfl⟩
 rw [HEp4.out] at Op4
 have HLp4:Hid (l4.length≤21):=hide (by rw [← HEp4.out,List.length_append,numN_length 2 _ (by decide)];have:=HLp3.out;omega)
 have KA:=hide (appendNumber_2 z4 l4 (na:Int) BB m4 Op4.out (Nat.le_trans HBW.out Yp4.out.size) (by omega) (by omega) (by have:=HLp4.out;omega))
 go_upto_region 12 with (go_at_call 123;(with_reducible refine KA.out.mono ?_);rintro e m5 ⟨z5,rfl,ho,hb2,hs2⟩;have Op5:=hide ho;have Yp5:Hid (Below BB W4 m5):=hide (Yp4.out.trans hb2);have Xp5:Hid (Ext w m5):=hide (XW4.out.below HB0.out Yp5.out);have Rp5:=hide (hs2 hb _ _ (by decide) Rp4.out);have Qp5:=hide (hs2 hq _ _ (by decide) Qp4.out);clear ho hb2 hs2)
 clear Rp4 Qp4 Op4 KA
 clear c0 c1 c2 c3 c4 c5 c6 c7 c8 c9 q0 q1 q2 q3 q4
 have c0:=Rp5.out.cell (i:=0) rfl
 have c1:=Rp5.out.cell (i:=1) rfl
 have c2:=Rp5.out.cell (i:=2) rfl
 have c3:=Rp5.out.cell (i:=3) rfl
 have c4:=Rp5.out.cell (i:=4) rfl
 have c5:=Rp5.out.cell (i:=5) rfl
 have c6:=Rp5.out.cell (i:=6) rfl
 have c7:=Rp5.out.cell (i:=7) rfl
 have c8:=Rp5.out.cell (i:=8) rfl
 have c9:=Rp5.out.cell (i:=9) rfl
 have q0:=Qp5.out.cell (i:=0) rfl
 have q1:=Qp5.out.cell (i:=1) rfl
 have q2:=Qp5.out.cell (i:=2) rfl
 have q3:=Qp5.out.cell (i:=3) rfl
 have q4:=Qp5.out.cell (i:=4) rfl
 obtain ⟨l5,HEp5⟩:∃l,Hid (l4 ++ numN 2 (na:Int)=l):=⟨_,hide rfl⟩
 rw [HEp5.out] at Op5
 have HLp5:Hid (l5.length≤23):=hide (by rw [← HEp5.out,List.length_append,numN_length 2 _ (by decide)];have:=HLp4.out;omega)
 go_upto_region 13 with (refine wpList_catGr rfl (.tmp 48) (.tmp 50) rfl BB z5 l5 bf A nb a rfl rfl HBN.out.symm Op5.out (HBF.out.ext Xp5.out) (Nat.le_trans HBW.out Yp5.out.size) (by rw [HBN.out];have:=HLp5.out;omega) ?_;intro z6 m6 ho hb2 hs2;have Op6:=hide ho;have Yp6:Hid (Below BB W4 m6):=hide (Yp5.out.trans hb2);have Xp6:Hid (Ext w m6):=hide (XW4.out.below HB0.out Yp6.out);have Rp6:=hide (hs2 hb _ _ (by decide) Rp5.out);have Qp6:=hide (hs2 hq _ _ (by decide) Qp5.out);clear ho hb2 hs2)
 clear Rp5 Qp5 Op5
 clear c0 c1 c2 c3 c4 c5 c6 c7 c8 c9 q0 q1 q2 q3 q4
 have c0:=Rp6.out.cell (i:=0) rfl
 have c1:=Rp6.out.cell (i:=1) rfl
 have c2:=Rp6.out.cell (i:=2) rfl
 have c3:=Rp6.out.cell (i:=3) rfl
 have c4:=Rp6.out.cell (i:=4) rfl
 have c5:=Rp6.out.cell (i:=5) rfl
 have c6:=Rp6.out.cell (i:=6) rfl
 have c7:=Rp6.out.cell (i:=7) rfl
 have c8:=Rp6.out.cell (i:=8) rfl
 have c9:=Rp6.out.cell (i:=9) rfl
 have q0:=Qp6.out.cell (i:=0) rfl
 have q1:=Qp6.out.cell (i:=1) rfl
 have q2:=Qp6.out.cell (i:=2) rfl
 have q3:=Qp6.out.cell (i:=3) rfl
 have q4:=Qp6.out.cell (i:=4) rfl
 obtain ⟨l6,HEp6⟩:∃l,Hid (l5 ++ bf=l):=⟨_,hide rfl⟩
 rw [HEp6.out] at Op6
 have HLp6:Hid (l6.length≤535):=hide (by rw [← HEp6.out,List.length_append,HBN.out];have:=HLp5.out;omega)
 go_upto_region 14 with (refine wpList_catGr rfl (.tmp 52) (.tmp 54) rfl BB z6 l6 af B na b' rfl rfl HAN.out.symm Op6.out (HAF.out.ext Xp6.out) (Nat.le_trans HBW.out Yp6.out.size) (by rw [HAN.out];have:=HLp6.out;omega) ?_;intro z7 m7 ho hb2 hs2;have Op7:=hide ho;have Yp7:Hid (Below BB W4 m7):=hide (Yp6.out.trans hb2);have Xp7:Hid (Ext w m7):=hide (XW4.out.below HB0.out Yp7.out);have Rp7:=hide (hs2 hb _ _ (by decide) Rp6.out);have Qp7:=hide (hs2 hq _ _ (by decide) Qp6.out);clear ho hb2 hs2)
 clear Rp6 Qp6 Op6
 clear c0 c1 c2 c3 c4 c5 c6 c7 c8 c9 q0 q1 q2 q3 q4
 have c0:=Rp7.out.cell (i:=0) rfl
 have c1:=Rp7.out.cell (i:=1) rfl
 have c2:=Rp7.out.cell (i:=2) rfl
 have c3:=Rp7.out.cell (i:=3) rfl
 have c4:=Rp7.out.cell (i:=4) rfl
 have c5:=Rp7.out.cell (i:=5) rfl
 have c6:=Rp7.out.cell (i:=6) rfl
 have c7:=Rp7.out.cell (i:=7) rfl
 have c8:=Rp7.out.cell (i:=8) rfl
 have c9:=Rp7.out.cell (i:=9) rfl
 have q0:=Qp7.out.cell (i:=0) rfl
 have q1:=Qp7.out.cell (i:=1) rfl
 have q2:=Qp7.out.cell (i:=2) rfl
 have q3:=Qp7.out.cell (i:=3) rfl
 have q4:=Qp7.out.cell (i:=4) rfl
 obtain ⟨l7,HEp7⟩:∃l,Hid (l6 ++ af=l):=⟨_,hide rfl⟩
 rw [HEp7.out] at Op7
 have HLp7:Hid (l7.length≤1047):=hide (by rw [← HEp7.out,List.length_append,HAN.out];have:=HLp6.out;omega)
 have KA:=hide (appendNumber_8 z7 l7 nx BB m7 Op7.out (Nat.le_trans HBW.out Yp7.out.size) HNX.out.1 HNX.out.2 (by have:=HLp7.out;omega))
 go_upto_region 16 with (go_at_call 123;(with_reducible refine KA.out.mono ?_);rintro e m8 ⟨z8,rfl,ho,hb2,hs2⟩;have Op8:=hide ho;have Yp8:Hid (Below BB W4 m8):=hide (Yp7.out.trans hb2);have Xp8:Hid (Ext w m8):=hide (XW4.out.below HB0.out Yp8.out);have Rp8:=hide (hs2 hb _ _ (by decide) Rp7.out);have Qp8:=hide (hs2 hq _ _ (by decide) Qp7.out);clear ho hb2 hs2)
 clear Rp7 Qp7 Op7 KA
 clear c0 c1 c2 c3 c4 c5 c6 c7 c8 c9 q0 q1 q2 q3 q4
 have c0:=Rp8.out.cell (i:=0) rfl
 have c1:=Rp8.out.cell (i:=1) rfl
 have c2:=Rp8.out.cell (i:=2) rfl
 have c3:=Rp8.out.cell (i:=3) rfl
 have c4:=Rp8.out.cell (i:=4) rfl
 have c5:=Rp8.out.cell (i:=5) rfl
 have c6:=Rp8.out.cell (i:=6) rfl
 have c7:=Rp8.out.cell (i:=7) rfl
 have c8:=Rp8.out.cell (i:=8) rfl
 have c9:=Rp8.out.cell (i:=9) rfl
 have q0:=Qp8.out.cell (i:=0) rfl
 have q1:=Qp8.out.cell (i:=1) rfl
 have q2:=Qp8.out.cell (i:=2) rfl
 have q3:=Qp8.out.cell (i:=3) rfl
 have q4:=Qp8.out.cell (i:=4) rfl
 obtain ⟨l8,HEp8⟩:∃l,Hid (l7 ++ numN 8 nx=l):=⟨_,hide rfl⟩
 rw [HEp8.out] at Op8
 have HLp8:Hid (l8.length≤1055):=hide (by rw [← HEp8.out,List.length_append,numN_length 8 _ (by decide)];have:=HLp7.out;omega)
 have HREC:Hid (recB 3 tx pv pg off nx bf af L op=l8):=hide (by
  rw [← HEp8.out,← HEp7.out,← HEp6.out,← HEp5.out,← HEp4.out,← HEp3.out,← HEp2.out,← HEp1.out,← HEp0.out]
  simp [recB,hpv,hch,hnx,hck,HAN.out])
 obtain ⟨AZ,cz,hvz,hcz,hrz⟩:=Op8.out.bytes
 subst hvz
 obtain ⟨nz,HNZ⟩:∃n,Hid (l8.length=n):=⟨_,hide rfl⟩
 rw [HNZ.out] at Op8 ⊢
 have KS:=hide (rcsumOf_any AZ l8 nz cz m8 hrz HNZ.out (by have:=HNZ.out;have:=HLp8.out;omega) (HT.out.ext Xp8.out))
 clear hcz hrz
 go_wp2_with (first
  | (go_at_call 125;(with_reducible refine KS.out.mono ?_);rintro e ws ⟨vs,rfl,hxs,hos⟩;obtain ⟨AS,cs,hvs,hcs,hrs⟩:=Own.bytes hos;subst hvs;have XS:=hide hxs;have RS:=hide hrs;clear hxs hrs hos hcs)
  | (refine wpList_catGr rfl (.tmp 67) (.tmp 69) rfl BB (.slice AZ nz cz) l8 (sumB l8) AS _ cs rfl rfl rfl (Op8.out.ext XS.out) RS.out (Nat.le_trans (Nat.le_trans HBW.out Yp8.out.size) XS.out.size) (by rw [show (sumB l8).length=4 from numN_length 4 _ (by decide)];have:=HLp8.out;omega) ?_;intro vf wf ho hb2 hs2))
 go_ret2
 refine ⟨vf,rfl, ?_,XW4.out.below HB0.out ((Yp8.out.trans (Below.mono XS.out (Nat.le_trans HBW.out Yp8.out.size))).trans hb2)⟩
 rw [fullB,HREC.out]
 exact own_mono ho HB0.out
theorem encode_4 (tx pv pg off nx:Int) (A B D:Option Addr) (nb a na b' nd d:Nat) (op:Bool) (w:World) (bf af:List UInt8) (L:List (Int×Int)) (ht:Tab w) (hb0:Rd w A bf) (ha0:Rd w B af) (hr:RdD w D L) (hbn:bf.length=nb) (han:af.length=na) (hn:L.length=nd) (hnd:nd≤140737488351232) (hna:na≤140737488351232) (hnb:nb≤140737488351232) (ho: -9223372036854775808≤off) (ho2:off < 9223372036854775808) (htx0:0≤tx) (htx:tx < 18446744073709551616) (hpv0:0≤pv) (hpv1:pv < 18446744073709551616) (hnx0:0≤nx) (hnx1:nx < 18446744073709551616) (hdl:∀e∈L,0≤e.2∧e.2 < 18446744073709551616) (hf:formN 4 pv pg off nx na nb nd L op=true):
  Calls Tryz.prog 97 #[.agg #[.int .u8 4, .int .u64 tx, .int .u64 pv, .int .i64 pg, .int .i64 off, .slice A nb a, .slice B na b', .int .u64 nx, .slice D nd d, .bool op]] w (EncP w (fullB 4 tx pv pg off nx bf af L op)):=by
 have KF:=hide (fun (W:World) (hW:Ext w W)=>(show Calls Tryz.prog 121 #[.agg #[.int .u8 4, .int .u64 tx, .int .u64 pv, .int .i64 pg, .int .i64 off, .slice A nb a, .slice B na b', .int .u64 nx, .slice D nd d, .bool op]] W (RetB W true) from by have h:=form_any 4 tx pv pg off nx A B D nb a na b' nd d op W L (hr.ext hW) hn hnd hna hnb ho ho2;rw [hf] at h;exact h))
 have KP:=hide (fun (W:World)=>(show Calls Tryz.prog 122 #[.int .u8 4] W (fun e w' =>e= .returned (.tuple #[.agg #[.bool true, .bool false, .bool false, .bool false, .bool false], .bool true])∧Ext W w') from partsOf_any 4 W))
 have HT:=hide ht
 have HBF:=hide hb0
 have HAF:=hide ha0
 have HD:=hide hr
 have HBN:=hide hbn
 have HAN:=hide han
 have HN:=hide hn
 have HTX:=hide (And.intro htx0 htx)
 have HPV:=hide (And.intro hpv0 hpv1)
 have HNX:=hide (And.intro hnx0 hnx1)
 clear ht hb0 ha0 hr hbn han hn htx0 htx hpv0 hpv1 hnx0 hnx1 hdl hf ho ho2
 go_enter Tryz.func97,Tryz.ntmps97
 go_upto_region 1 with fail
 obtain ⟨W1,hX1,hR1,hg⟩:∃W1,Ext w W1∧Rw W1 w.heap.size 95 [.int .u8 4, .int .u64 tx, .int .u64 pv, .int .i64 pg, .int .i64 off, .slice A nb a, .slice B na b', .int .u64 nx, .slice D nd d, .bool op]∧w.alloc (.cells #[.int .u8 4, .int .u64 tx, .int .u64 pv, .int .i64 pg, .int .i64 off, .slice A nb a, .slice B na b', .int .u64 nx, .slice D nd d, .bool op] 95)=W1:=⟨_,Ext.alloc _ _,Rw.new _ _ _,rfl⟩
 rw [hg]
 obtain ⟨hb,HHB⟩:∃hb,Hid (w.heap.size=hb):=⟨_,hide rfl⟩
 rw [HHB.out] at hR1 ⊢
 have X1:=hide hX1
 have R1:=hide hR1
 have c0:=hR1.cell (i:=0) rfl
 have c1:=hR1.cell (i:=1) rfl
 have c2:=hR1.cell (i:=2) rfl
 have c3:=hR1.cell (i:=3) rfl
 have c4:=hR1.cell (i:=4) rfl
 have c5:=hR1.cell (i:=5) rfl
 have c6:=hR1.cell (i:=6) rfl
 have c7:=hR1.cell (i:=7) rfl
 have c8:=hR1.cell (i:=8) rfl
 have c9:=hR1.cell (i:=9) rfl
 clear hg hX1 hR1
 go_upto_region 3 with (go_at_call 121;(with_reducible refine (KF.out _ X1.out).mono ?_);rintro e w2 ⟨rfl,hx2⟩;have X2:=hide (X1.out.trans hx2);have R2:=hide (R1.out.ext hx2);clear hx2)
 clear c0 c1 c2 c3 c4 c5 c6 c7 c8 c9
 have c0:=R2.out.cell (i:=0) rfl
 go_upto_region 4 with (go_at_call 122;(with_reducible refine (KP.out _).mono ?_);rintro e w3 ⟨rfl,hx3⟩;have X3:=hide (X2.out.trans hx3);have R3:=hide (R2.out.ext hx3);clear hx3)
 clear c0
 obtain ⟨W4,hX4,hR4,hg⟩:∃W4,Ext w3 W4∧Rw W4 w3.heap.size 162 [.bool true, .bool false, .bool false, .bool false, .bool false]∧w3.alloc (.cells #[.bool true, .bool false, .bool false, .bool false, .bool false] 162)=W4:=⟨_,Ext.alloc _ _,Rw.new _ _ _,rfl⟩
 rw [hg]
 obtain ⟨hq,HHQ⟩:∃hq,Hid (w3.heap.size=hq):=⟨_,hide rfl⟩
 rw [HHQ.out] at hR4 ⊢
 have R4:=hide (R3.out.ext hX4)
 have Q4:=hide hR4
 obtain ⟨BB,HBB⟩:∃BB,Hid (W4.heap.size=BB):=⟨_,hide rfl⟩
 have XW4:=hide (X3.out.trans hX4)
 have HB0:Hid (w.heap.size≤BB):=hide (by rw [← HBB.out];exact XW4.out.size)
 have Y4:Hid (Below BB W4 W4):=hide (Below.refl _ _)
 have O4:Hid (Own W4 BB (.slice none 0 0) []):=hide (Own.nil _ _)
 have HBW:Hid (BB≤W4.heap.size):=hide (by rw [HBB.out];exact Nat.le_refl _)
 clear hg hX4 hR4 X1 X2 X3 R1 R2 R3 KF KP HHB HHQ
 have c0:=R4.out.cell (i:=0) rfl
 have c1:=R4.out.cell (i:=1) rfl
 have c2:=R4.out.cell (i:=2) rfl
 have c3:=R4.out.cell (i:=3) rfl
 have c4:=R4.out.cell (i:=4) rfl
 have c5:=R4.out.cell (i:=5) rfl
 have c6:=R4.out.cell (i:=6) rfl
 have c7:=R4.out.cell (i:=7) rfl
 have c8:=R4.out.cell (i:=8) rfl
 have c9:=R4.out.cell (i:=9) rfl
 have q0:=Q4.out.cell (i:=0) rfl
 have q1:=Q4.out.cell (i:=1) rfl
 have q2:=Q4.out.cell (i:=2) rfl
 have q3:=Q4.out.cell (i:=3) rfl
 have q4:=Q4.out.cell (i:=4) rfl
 have KA:=hide (appendNumber_1 (.slice none 0 0) [] 4 BB W4 O4.out HBW.out (by omega) (by omega) (by simp))
 go_upto_region 5 with (go_at_call 123;(with_reducible refine KA.out.mono ?_);rintro e m0 ⟨z0,rfl,ho,hb2,hs2⟩;have Op0:=hide ho;have Yp0:Hid (Below BB W4 m0):=hide (Y4.out.trans hb2);have Xp0:Hid (Ext w m0):=hide (XW4.out.below HB0.out Yp0.out);have Rp0:=hide (hs2 hb _ _ (by decide) R4.out);have Qp0:=hide (hs2 hq _ _ (by decide) Q4.out);clear ho hb2 hs2)
 clear R4 Q4 O4 KA
 clear c0 c1 c2 c3 c4 c5 c6 c7 c8 c9 q0 q1 q2 q3 q4
 have c0:=Rp0.out.cell (i:=0) rfl
 have c1:=Rp0.out.cell (i:=1) rfl
 have c2:=Rp0.out.cell (i:=2) rfl
 have c3:=Rp0.out.cell (i:=3) rfl
 have c4:=Rp0.out.cell (i:=4) rfl
 have c5:=Rp0.out.cell (i:=5) rfl
 have c6:=Rp0.out.cell (i:=6) rfl
 have c7:=Rp0.out.cell (i:=7) rfl
 have c8:=Rp0.out.cell (i:=8) rfl
 have c9:=Rp0.out.cell (i:=9) rfl
 have q0:=Qp0.out.cell (i:=0) rfl
 have q1:=Qp0.out.cell (i:=1) rfl
 have q2:=Qp0.out.cell (i:=2) rfl
 have q3:=Qp0.out.cell (i:=3) rfl
 have q4:=Qp0.out.cell (i:=4) rfl
 obtain ⟨l0,HEp0⟩:∃l,Hid ([] ++ numN 1 4=l):=⟨_,hide rfl⟩
 rw [HEp0.out] at Op0
 have HLp0:Hid (l0.length≤1):=hide (by rw [← HEp0.out,List.length_append,numN_length 1 _ (by decide)];simp)
 have KA:=hide (appendNumber_8 z0 l0 tx BB m0 Op0.out (Nat.le_trans HBW.out Yp0.out.size) HTX.out.1 HTX.out.2 (by have:=HLp0.out;omega))
 go_upto_region 6 with (go_at_call 123;(with_reducible refine KA.out.mono ?_);rintro e m1 ⟨z1,rfl,ho,hb2,hs2⟩;have Op1:=hide ho;have Yp1:Hid (Below BB W4 m1):=hide (Yp0.out.trans hb2);have Xp1:Hid (Ext w m1):=hide (XW4.out.below HB0.out Yp1.out);have Rp1:=hide (hs2 hb _ _ (by decide) Rp0.out);have Qp1:=hide (hs2 hq _ _ (by decide) Qp0.out);clear ho hb2 hs2)
 clear Rp0 Qp0 Op0 KA
 clear c0 c1 c2 c3 c4 c5 c6 c7 c8 c9 q0 q1 q2 q3 q4
 have c0:=Rp1.out.cell (i:=0) rfl
 have c1:=Rp1.out.cell (i:=1) rfl
 have c2:=Rp1.out.cell (i:=2) rfl
 have c3:=Rp1.out.cell (i:=3) rfl
 have c4:=Rp1.out.cell (i:=4) rfl
 have c5:=Rp1.out.cell (i:=5) rfl
 have c6:=Rp1.out.cell (i:=6) rfl
 have c7:=Rp1.out.cell (i:=7) rfl
 have c8:=Rp1.out.cell (i:=8) rfl
 have c9:=Rp1.out.cell (i:=9) rfl
 have q0:=Qp1.out.cell (i:=0) rfl
 have q1:=Qp1.out.cell (i:=1) rfl
 have q2:=Qp1.out.cell (i:=2) rfl
 have q3:=Qp1.out.cell (i:=3) rfl
 have q4:=Qp1.out.cell (i:=4) rfl
 obtain ⟨l1,HEp1⟩:∃l,Hid (l0 ++ numN 8 tx=l):=⟨_,hide rfl⟩
 rw [HEp1.out] at Op1
 have HLp1:Hid (l1.length≤9):=hide (by rw [← HEp1.out,List.length_append,numN_length 8 _ (by decide)];have:=HLp0.out;omega)
 have KA:=hide (appendNumber_8 z1 l1 pv BB m1 Op1.out (Nat.le_trans HBW.out Yp1.out.size) HPV.out.1 HPV.out.2 (by have:=HLp1.out;omega))
 go_upto_region 8 with (go_at_call 123;(with_reducible refine KA.out.mono ?_);rintro e m2 ⟨z2,rfl,ho,hb2,hs2⟩;have Op2:=hide ho;have Yp2:Hid (Below BB W4 m2):=hide (Yp1.out.trans hb2);have Xp2:Hid (Ext w m2):=hide (XW4.out.below HB0.out Yp2.out);have Rp2:=hide (hs2 hb _ _ (by decide) Rp1.out);have Qp2:=hide (hs2 hq _ _ (by decide) Qp1.out);clear ho hb2 hs2)
 clear Rp1 Qp1 Op1 KA
 clear c0 c1 c2 c3 c4 c5 c6 c7 c8 c9 q0 q1 q2 q3 q4
 have c0:=Rp2.out.cell (i:=0) rfl
 have c1:=Rp2.out.cell (i:=1) rfl
 have c2:=Rp2.out.cell (i:=2) rfl
 have c3:=Rp2.out.cell (i:=3) rfl
 have c4:=Rp2.out.cell (i:=4) rfl
 have c5:=Rp2.out.cell (i:=5) rfl
 have c6:=Rp2.out.cell (i:=6) rfl
 have c7:=Rp2.out.cell (i:=7) rfl
 have c8:=Rp2.out.cell (i:=8) rfl
 have c9:=Rp2.out.cell (i:=9) rfl
 have q0:=Qp2.out.cell (i:=0) rfl
 have q1:=Qp2.out.cell (i:=1) rfl
 have q2:=Qp2.out.cell (i:=2) rfl
 have q3:=Qp2.out.cell (i:=3) rfl
 have q4:=Qp2.out.cell (i:=4) rfl
 obtain ⟨l2,HEp2⟩:∃l,Hid (l1 ++ numN 8 pv=l):=⟨_,hide rfl⟩
 rw [HEp2.out] at Op2
 have HLp2:Hid (l2.length≤17):=hide (by rw [← HEp2.out,List.length_append,numN_length 8 _ (by decide)];have:=HLp1.out;omega)
 have HREC:Hid (recB 4 tx pv pg off nx bf af L op=l2):=hide (by
  rw [← HEp2.out,← HEp1.out,← HEp0.out]
  simp [recB,hpv,hch,hnx,hck])
 obtain ⟨AZ,cz,hvz,hcz,hrz⟩:=Op2.out.bytes
 subst hvz
 obtain ⟨nz,HNZ⟩:∃n,Hid (l2.length=n):=⟨_,hide rfl⟩
 rw [HNZ.out] at Op2 ⊢
 have KS:=hide (rcsumOf_any AZ l2 nz cz m2 hrz HNZ.out (by have:=HNZ.out;have:=HLp2.out;omega) (HT.out.ext Xp2.out))
 clear hcz hrz
 go_wp2_with (first
  | (go_at_call 125;(with_reducible refine KS.out.mono ?_);rintro e ws ⟨vs,rfl,hxs,hos⟩;obtain ⟨AS,cs,hvs,hcs,hrs⟩:=Own.bytes hos;subst hvs;have XS:=hide hxs;have RS:=hide hrs;clear hxs hrs hos hcs)
  | (refine wpList_catGr rfl (.tmp 67) (.tmp 69) rfl BB (.slice AZ nz cz) l2 (sumB l2) AS _ cs rfl rfl rfl (Op2.out.ext XS.out) RS.out (Nat.le_trans (Nat.le_trans HBW.out Yp2.out.size) XS.out.size) (by rw [show (sumB l2).length=4 from numN_length 4 _ (by decide)];have:=HLp2.out;omega) ?_;intro vf wf ho hb2 hs2))
 go_ret2
 refine ⟨vf,rfl, ?_,XW4.out.below HB0.out ((Yp2.out.trans (Below.mono XS.out (Nat.le_trans HBW.out Yp2.out.size))).trans hb2)⟩
 rw [fullB,HREC.out]
 exact own_mono ho HB0.out
theorem encode_5 (tx pv pg off nx:Int) (A B D:Option Addr) (nb a na b' nd d:Nat) (op:Bool) (w:World) (bf af:List UInt8) (L:List (Int×Int)) (ht:Tab w) (hb0:Rd w A bf) (ha0:Rd w B af) (hr:RdD w D L) (hbn:bf.length=nb) (han:af.length=na) (hn:L.length=nd) (hnd:nd≤140737488351232) (hna:na≤140737488351232) (hnb:nb≤140737488351232) (ho: -9223372036854775808≤off) (ho2:off < 9223372036854775808) (htx0:0≤tx) (htx:tx < 18446744073709551616) (hpv0:0≤pv) (hpv1:pv < 18446744073709551616) (hnx0:0≤nx) (hnx1:nx < 18446744073709551616) (hdl:∀e∈L,0≤e.2∧e.2 < 18446744073709551616) (hf:formN 5 pv pg off nx na nb nd L op=true):
  Calls Tryz.prog 97 #[.agg #[.int .u8 5, .int .u64 tx, .int .u64 pv, .int .i64 pg, .int .i64 off, .slice A nb a, .slice B na b', .int .u64 nx, .slice D nd d, .bool op]] w (EncP w (fullB 5 tx pv pg off nx bf af L op)):=by
 have KF:=hide (fun (W:World) (hW:Ext w W)=>(show Calls Tryz.prog 121 #[.agg #[.int .u8 5, .int .u64 tx, .int .u64 pv, .int .i64 pg, .int .i64 off, .slice A nb a, .slice B na b', .int .u64 nx, .slice D nd d, .bool op]] W (RetB W true) from by have h:=form_any 5 tx pv pg off nx A B D nb a na b' nd d op W L (hr.ext hW) hn hnd hna hnb ho ho2;rw [hf] at h;exact h))
 have KP:=hide (fun (W:World)=>(show Calls Tryz.prog 122 #[.int .u8 5] W (fun e w' =>e= .returned (.tuple #[.agg #[.bool true, .bool false, .bool false, .bool false, .bool false], .bool true])∧Ext W w') from partsOf_any 5 W))
 have HT:=hide ht
 have HBF:=hide hb0
 have HAF:=hide ha0
 have HD:=hide hr
 have HBN:=hide hbn
 have HAN:=hide han
 have HN:=hide hn
 have HTX:=hide (And.intro htx0 htx)
 have HPV:=hide (And.intro hpv0 hpv1)
 have HNX:=hide (And.intro hnx0 hnx1)
 clear ht hb0 ha0 hr hbn han hn htx0 htx hpv0 hpv1 hnx0 hnx1 hdl hf ho ho2
 go_enter Tryz.func97,Tryz.ntmps97
 go_upto_region 1 with fail
 obtain ⟨W1,hX1,hR1,hg⟩:∃W1,Ext w W1∧Rw W1 w.heap.size 95 [.int .u8 5, .int .u64 tx, .int .u64 pv, .int .i64 pg, .int .i64 off, .slice A nb a, .slice B na b', .int .u64 nx, .slice D nd d, .bool op]∧w.alloc (.cells #[.int .u8 5, .int .u64 tx, .int .u64 pv, .int .i64 pg, .int .i64 off, .slice A nb a, .slice B na b', .int .u64 nx, .slice D nd d, .bool op] 95)=W1:=⟨_,Ext.alloc _ _,Rw.new _ _ _,rfl⟩
 rw [hg]
 obtain ⟨hb,HHB⟩:∃hb,Hid (w.heap.size=hb):=⟨_,hide rfl⟩
 rw [HHB.out] at hR1 ⊢
 have X1:=hide hX1
 have R1:=hide hR1
 have c0:=hR1.cell (i:=0) rfl
 have c1:=hR1.cell (i:=1) rfl
 have c2:=hR1.cell (i:=2) rfl
 have c3:=hR1.cell (i:=3) rfl
 have c4:=hR1.cell (i:=4) rfl
 have c5:=hR1.cell (i:=5) rfl
 have c6:=hR1.cell (i:=6) rfl
 have c7:=hR1.cell (i:=7) rfl
 have c8:=hR1.cell (i:=8) rfl
 have c9:=hR1.cell (i:=9) rfl
 clear hg hX1 hR1
 go_upto_region 3 with (go_at_call 121;(with_reducible refine (KF.out _ X1.out).mono ?_);rintro e w2 ⟨rfl,hx2⟩;have X2:=hide (X1.out.trans hx2);have R2:=hide (R1.out.ext hx2);clear hx2)
 clear c0 c1 c2 c3 c4 c5 c6 c7 c8 c9
 have c0:=R2.out.cell (i:=0) rfl
 go_upto_region 4 with (go_at_call 122;(with_reducible refine (KP.out _).mono ?_);rintro e w3 ⟨rfl,hx3⟩;have X3:=hide (X2.out.trans hx3);have R3:=hide (R2.out.ext hx3);clear hx3)
 clear c0
 obtain ⟨W4,hX4,hR4,hg⟩:∃W4,Ext w3 W4∧Rw W4 w3.heap.size 162 [.bool true, .bool false, .bool false, .bool false, .bool false]∧w3.alloc (.cells #[.bool true, .bool false, .bool false, .bool false, .bool false] 162)=W4:=⟨_,Ext.alloc _ _,Rw.new _ _ _,rfl⟩
 rw [hg]
 obtain ⟨hq,HHQ⟩:∃hq,Hid (w3.heap.size=hq):=⟨_,hide rfl⟩
 rw [HHQ.out] at hR4 ⊢
 have R4:=hide (R3.out.ext hX4)
 have Q4:=hide hR4
 obtain ⟨BB,HBB⟩:∃BB,Hid (W4.heap.size=BB):=⟨_,hide rfl⟩
 have XW4:=hide (X3.out.trans hX4)
 have HB0:Hid (w.heap.size≤BB):=hide (by rw [← HBB.out];exact XW4.out.size)
 have Y4:Hid (Below BB W4 W4):=hide (Below.refl _ _)
 have O4:Hid (Own W4 BB (.slice none 0 0) []):=hide (Own.nil _ _)
 have HBW:Hid (BB≤W4.heap.size):=hide (by rw [HBB.out];exact Nat.le_refl _)
 clear hg hX4 hR4 X1 X2 X3 R1 R2 R3 KF KP HHB HHQ
 have c0:=R4.out.cell (i:=0) rfl
 have c1:=R4.out.cell (i:=1) rfl
 have c2:=R4.out.cell (i:=2) rfl
 have c3:=R4.out.cell (i:=3) rfl
 have c4:=R4.out.cell (i:=4) rfl
 have c5:=R4.out.cell (i:=5) rfl
 have c6:=R4.out.cell (i:=6) rfl
 have c7:=R4.out.cell (i:=7) rfl
 have c8:=R4.out.cell (i:=8) rfl
 have c9:=R4.out.cell (i:=9) rfl
 have q0:=Q4.out.cell (i:=0) rfl
 have q1:=Q4.out.cell (i:=1) rfl
 have q2:=Q4.out.cell (i:=2) rfl
 have q3:=Q4.out.cell (i:=3) rfl
 have q4:=Q4.out.cell (i:=4) rfl
 have KA:=hide (appendNumber_1 (.slice none 0 0) [] 5 BB W4 O4.out HBW.out (by omega) (by omega) (by simp))
 go_upto_region 5 with (go_at_call 123;(with_reducible refine KA.out.mono ?_);rintro e m0 ⟨z0,rfl,ho,hb2,hs2⟩;have Op0:=hide ho;have Yp0:Hid (Below BB W4 m0):=hide (Y4.out.trans hb2);have Xp0:Hid (Ext w m0):=hide (XW4.out.below HB0.out Yp0.out);have Rp0:=hide (hs2 hb _ _ (by decide) R4.out);have Qp0:=hide (hs2 hq _ _ (by decide) Q4.out);clear ho hb2 hs2)
 clear R4 Q4 O4 KA
 clear c0 c1 c2 c3 c4 c5 c6 c7 c8 c9 q0 q1 q2 q3 q4
 have c0:=Rp0.out.cell (i:=0) rfl
 have c1:=Rp0.out.cell (i:=1) rfl
 have c2:=Rp0.out.cell (i:=2) rfl
 have c3:=Rp0.out.cell (i:=3) rfl
 have c4:=Rp0.out.cell (i:=4) rfl
 have c5:=Rp0.out.cell (i:=5) rfl
 have c6:=Rp0.out.cell (i:=6) rfl
 have c7:=Rp0.out.cell (i:=7) rfl
 have c8:=Rp0.out.cell (i:=8) rfl
 have c9:=Rp0.out.cell (i:=9) rfl
 have q0:=Qp0.out.cell (i:=0) rfl
 have q1:=Qp0.out.cell (i:=1) rfl
 have q2:=Qp0.out.cell (i:=2) rfl
 have q3:=Qp0.out.cell (i:=3) rfl
 have q4:=Qp0.out.cell (i:=4) rfl
 obtain ⟨l0,HEp0⟩:∃l,Hid ([] ++ numN 1 5=l):=⟨_,hide rfl⟩
 rw [HEp0.out] at Op0
 have HLp0:Hid (l0.length≤1):=hide (by rw [← HEp0.out,List.length_append,numN_length 1 _ (by decide)];simp)
 have KA:=hide (appendNumber_8 z0 l0 tx BB m0 Op0.out (Nat.le_trans HBW.out Yp0.out.size) HTX.out.1 HTX.out.2 (by have:=HLp0.out;omega))
 go_upto_region 6 with (go_at_call 123;(with_reducible refine KA.out.mono ?_);rintro e m1 ⟨z1,rfl,ho,hb2,hs2⟩;have Op1:=hide ho;have Yp1:Hid (Below BB W4 m1):=hide (Yp0.out.trans hb2);have Xp1:Hid (Ext w m1):=hide (XW4.out.below HB0.out Yp1.out);have Rp1:=hide (hs2 hb _ _ (by decide) Rp0.out);have Qp1:=hide (hs2 hq _ _ (by decide) Qp0.out);clear ho hb2 hs2)
 clear Rp0 Qp0 Op0 KA
 clear c0 c1 c2 c3 c4 c5 c6 c7 c8 c9 q0 q1 q2 q3 q4
 have c0:=Rp1.out.cell (i:=0) rfl
 have c1:=Rp1.out.cell (i:=1) rfl
 have c2:=Rp1.out.cell (i:=2) rfl
 have c3:=Rp1.out.cell (i:=3) rfl
 have c4:=Rp1.out.cell (i:=4) rfl
 have c5:=Rp1.out.cell (i:=5) rfl
 have c6:=Rp1.out.cell (i:=6) rfl
 have c7:=Rp1.out.cell (i:=7) rfl
 have c8:=Rp1.out.cell (i:=8) rfl
 have c9:=Rp1.out.cell (i:=9) rfl
 have q0:=Qp1.out.cell (i:=0) rfl
 have q1:=Qp1.out.cell (i:=1) rfl
 have q2:=Qp1.out.cell (i:=2) rfl
 have q3:=Qp1.out.cell (i:=3) rfl
 have q4:=Qp1.out.cell (i:=4) rfl
 obtain ⟨l1,HEp1⟩:∃l,Hid (l0 ++ numN 8 tx=l):=⟨_,hide rfl⟩
 rw [HEp1.out] at Op1
 have HLp1:Hid (l1.length≤9):=hide (by rw [← HEp1.out,List.length_append,numN_length 8 _ (by decide)];have:=HLp0.out;omega)
 have KA:=hide (appendNumber_8 z1 l1 pv BB m1 Op1.out (Nat.le_trans HBW.out Yp1.out.size) HPV.out.1 HPV.out.2 (by have:=HLp1.out;omega))
 go_upto_region 8 with (go_at_call 123;(with_reducible refine KA.out.mono ?_);rintro e m2 ⟨z2,rfl,ho,hb2,hs2⟩;have Op2:=hide ho;have Yp2:Hid (Below BB W4 m2):=hide (Yp1.out.trans hb2);have Xp2:Hid (Ext w m2):=hide (XW4.out.below HB0.out Yp2.out);have Rp2:=hide (hs2 hb _ _ (by decide) Rp1.out);have Qp2:=hide (hs2 hq _ _ (by decide) Qp1.out);clear ho hb2 hs2)
 clear Rp1 Qp1 Op1 KA
 clear c0 c1 c2 c3 c4 c5 c6 c7 c8 c9 q0 q1 q2 q3 q4
 have c0:=Rp2.out.cell (i:=0) rfl
 have c1:=Rp2.out.cell (i:=1) rfl
 have c2:=Rp2.out.cell (i:=2) rfl
 have c3:=Rp2.out.cell (i:=3) rfl
 have c4:=Rp2.out.cell (i:=4) rfl
 have c5:=Rp2.out.cell (i:=5) rfl
 have c6:=Rp2.out.cell (i:=6) rfl
 have c7:=Rp2.out.cell (i:=7) rfl
 have c8:=Rp2.out.cell (i:=8) rfl
 have c9:=Rp2.out.cell (i:=9) rfl
 have q0:=Qp2.out.cell (i:=0) rfl
 have q1:=Qp2.out.cell (i:=1) rfl
 have q2:=Qp2.out.cell (i:=2) rfl
 have q3:=Qp2.out.cell (i:=3) rfl
 have q4:=Qp2.out.cell (i:=4) rfl
 obtain ⟨l2,HEp2⟩:∃l,Hid (l1 ++ numN 8 pv=l):=⟨_,hide rfl⟩
 rw [HEp2.out] at Op2
 have HLp2:Hid (l2.length≤17):=hide (by rw [← HEp2.out,List.length_append,numN_length 8 _ (by decide)];have:=HLp1.out;omega)
 have HREC:Hid (recB 5 tx pv pg off nx bf af L op=l2):=hide (by
  rw [← HEp2.out,← HEp1.out,← HEp0.out]
  simp [recB,hpv,hch,hnx,hck])
 obtain ⟨AZ,cz,hvz,hcz,hrz⟩:=Op2.out.bytes
 subst hvz
 obtain ⟨nz,HNZ⟩:∃n,Hid (l2.length=n):=⟨_,hide rfl⟩
 rw [HNZ.out] at Op2 ⊢
 have KS:=hide (rcsumOf_any AZ l2 nz cz m2 hrz HNZ.out (by have:=HNZ.out;have:=HLp2.out;omega) (HT.out.ext Xp2.out))
 clear hcz hrz
 go_wp2_with (first
  | (go_at_call 125;(with_reducible refine KS.out.mono ?_);rintro e ws ⟨vs,rfl,hxs,hos⟩;obtain ⟨AS,cs,hvs,hcs,hrs⟩:=Own.bytes hos;subst hvs;have XS:=hide hxs;have RS:=hide hrs;clear hxs hrs hos hcs)
  | (refine wpList_catGr rfl (.tmp 67) (.tmp 69) rfl BB (.slice AZ nz cz) l2 (sumB l2) AS _ cs rfl rfl rfl (Op2.out.ext XS.out) RS.out (Nat.le_trans (Nat.le_trans HBW.out Yp2.out.size) XS.out.size) (by rw [show (sumB l2).length=4 from numN_length 4 _ (by decide)];have:=HLp2.out;omega) ?_;intro vf wf ho hb2 hs2))
 go_ret2
 refine ⟨vf,rfl, ?_,XW4.out.below HB0.out ((Yp2.out.trans (Below.mono XS.out (Nat.le_trans HBW.out Yp2.out.size))).trans hb2)⟩
 rw [fullB,HREC.out]
 exact own_mono ho HB0.out
end Go.Proofs.YthmdmgnhfhpcaaaGreatDoor
