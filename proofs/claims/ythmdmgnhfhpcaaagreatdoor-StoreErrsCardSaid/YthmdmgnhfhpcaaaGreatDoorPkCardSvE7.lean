/-
  What the card wants, part 7: RcE6, RcE, StC, StD, PlV, StE, StF, StG, StH, StI, StJ, StK, StL, PlD, LgRs.
-/
import Derived.Deep.RegionHeld3
import Derived.StillTailTactics
import Derived.Laws.AppendOwn
import Derived.Test.YthmdmgnhfhpcaaaGreatDoorPkCardSvE3
import Derived.Test.YthmdmgnhfhpcaaaGreatDoorPkCardSvE4
import Derived.Test.YthmdmgnhfhpcaaaGreatDoorPkCardSvE5
import Derived.Test.YthmdmgnhfhpcaaaGreatDoorPkCardSvE6
set_option linter.unusedVariables false
set_option linter.unusedSimpArgs false
set_option maxRecDepth 20000
set_option maxHeartbeats 12800000
namespace Go.Proofs.YthmdmgnhfhpcaaaGreatDoor
open Go.RowKit
theorem encode_6 (tx pv pg off nx:Int) (A B D:Option Addr) (nb a na b' nd d:Nat) (op:Bool) (w:World) (bf af:List UInt8) (L:List (Int×Int)) (ht:Tab w) (hb0:Rd w A bf) (ha0:Rd w B af) (hr:RdD w D L) (hbn:bf.length=nb) (han:af.length=na) (hn:L.length=nd) (hnd:nd≤140737488351232) (hna:na≤140737488351232) (hnb:nb≤140737488351232) (ho: -9223372036854775808≤off) (ho2:off < 9223372036854775808) (htx0:0≤tx) (htx:tx < 18446744073709551616) (hpv0:0≤pv) (hpv1:pv < 18446744073709551616) (hnx0:0≤nx) (hnx1:nx < 18446744073709551616) (hdl:∀e∈L,0≤e.2∧e.2 < 18446744073709551616) (hf:formN 6 pv pg off nx na nb nd L op=true):
  Calls Tryz.prog 97 #[.agg #[.int .u8 6, .int .u64 tx, .int .u64 pv, .int .i64 pg, .int .i64 off, .slice A nb a, .slice B na b', .int .u64 nx, .slice D nd d, .bool op]] w (EncP w (fullB 6 tx pv pg off nx bf af L op)):=by
 have KF:=hide (fun (W:World) (hW:Ext w W)=>(show Calls Tryz.prog 121 #[.agg #[.int .u8 6, .int .u64 tx, .int .u64 pv, .int .i64 pg, .int .i64 off, .slice A nb a, .slice B na b', .int .u64 nx, .slice D nd d, .bool op]] W (RetB W true) from by have h:=form_any 6 tx pv pg off nx A B D nb a na b' nd d op W L (hr.ext hW) hn hnd hna hnb ho ho2;rw [hf] at h;exact h))
 have KP:=hide (fun (W:World)=>(show Calls Tryz.prog 122 #[.int .u8 6] W (fun e w' =>e= .returned (.tuple #[.agg #[.bool true, .bool false, .bool false, .bool false, .bool true], .bool true])∧Ext W w') from partsOf_any 6 W))
 obtain ⟨hnd64,hris⟩:nd≤64∧risB (-1) L=true:=by
  simp [formN,hok,hpv,hch,hbf,hnx,hck,chgN,chkN] at hf
  exact ⟨hf.2.2.1,hf.2.2.2⟩
 have HLL:=hide (fun (e:Int×Int) (he:e∈L)=>(show (0≤e.1∧e.1 < 4096)∧0≤e.2∧e.2 < 18446744073709551616 from ⟨risB_mem L (-1) (Int.le_refl _) hris e he,hdl e he⟩))
 clear hris
 have HT:=hide ht
 have HBF:=hide hb0
 have HAF:=hide ha0
 have HD:=hide hr
 have HBN:=hide hbn
 have HAN:=hide han
 have HN:=hide hn
 have HTX:=hide (And.intro htx0 htx)
 have HPV:=hide (And.intro hpv0 hpv1)
 have HNX:=hide (And.intro hnx0 hnx1)
 clear ht hb0 ha0 hr hbn han hn htx0 htx hpv0 hpv1 hnx0 hnx1 hdl hf ho ho2
 go_enter Tryz.func97,Tryz.ntmps97
 go_upto_region 1 with fail
 obtain ⟨W1,hX1,hR1,hg⟩:∃W1,Ext w W1∧Rw W1 w.heap.size 95 [.int .u8 6, .int .u64 tx, .int .u64 pv, .int .i64 pg, .int .i64 off, .slice A nb a, .slice B na b', .int .u64 nx, .slice D nd d, .bool op]∧w.alloc (.cells #[.int .u8 6, .int .u64 tx, .int .u64 pv, .int .i64 pg, .int .i64 off, .slice A nb a, .slice B na b', .int .u64 nx, .slice D nd d, .bool op] 95)=W1:=⟨_,Ext.alloc _ _,Rw.new _ _ _,rfl⟩
 rw [hg]
 obtain ⟨hb,HHB⟩:∃hb,Hid (w.heap.size=hb):=⟨_,hide rfl⟩
 rw [HHB.out] at hR1 ⊢
 have X1:=hide hX1
 have R1:=hide hR1
 have c0:=hR1.cell (i:=0) rfl
 have c1:=hR1.cell (i:=1) rfl
 have c2:=hR1.cell (i:=2) rfl
 have c3:=hR1.cell (i:=3) rfl
 have c4:=hR1.cell (i:=4) rfl
 have c5:=hR1.cell (i:=5) rfl
 have c6:=hR1.cell (i:=6) rfl
 have c7:=hR1.cell (i:=7) rfl
 have c8:=hR1.cell (i:=8) rfl
 have c9:=hR1.cell (i:=9) rfl
 clear hg hX1 hR1
 go_upto_region 3 with (go_at_call 121;(with_reducible refine (KF.out _ X1.out).mono ?_);rintro e w2 ⟨rfl,hx2⟩;have X2:=hide (X1.out.trans hx2);have R2:=hide (R1.out.ext hx2);clear hx2)
 clear c0 c1 c2 c3 c4 c5 c6 c7 c8 c9
 have c0:=R2.out.cell (i:=0) rfl
 go_upto_region 4 with (go_at_call 122;(with_reducible refine (KP.out _).mono ?_);rintro e w3 ⟨rfl,hx3⟩;have X3:=hide (X2.out.trans hx3);have R3:=hide (R2.out.ext hx3);clear hx3)
 clear c0
 obtain ⟨W4,hX4,hR4,hg⟩:∃W4,Ext w3 W4∧Rw W4 w3.heap.size 162 [.bool true, .bool false, .bool false, .bool false, .bool true]∧w3.alloc (.cells #[.bool true, .bool false, .bool false, .bool false, .bool true] 162)=W4:=⟨_,Ext.alloc _ _,Rw.new _ _ _,rfl⟩
 rw [hg]
 obtain ⟨hq,HHQ⟩:∃hq,Hid (w3.heap.size=hq):=⟨_,hide rfl⟩
 rw [HHQ.out] at hR4 ⊢
 have R4:=hide (R3.out.ext hX4)
 have Q4:=hide hR4
 obtain ⟨BB,HBB⟩:∃BB,Hid (W4.heap.size=BB):=⟨_,hide rfl⟩
 have XW4:=hide (X3.out.trans hX4)
 have HB0:Hid (w.heap.size≤BB):=hide (by rw [← HBB.out];exact XW4.out.size)
 have Y4:Hid (Below BB W4 W4):=hide (Below.refl _ _)
 have O4:Hid (Own W4 BB (.slice none 0 0) []):=hide (Own.nil _ _)
 have HBW:Hid (BB≤W4.heap.size):=hide (by rw [HBB.out];exact Nat.le_refl _)
 clear hg hX4 hR4 X1 X2 X3 R1 R2 R3 KF KP HHB HHQ
 have c0:=R4.out.cell (i:=0) rfl
 have c1:=R4.out.cell (i:=1) rfl
 have c2:=R4.out.cell (i:=2) rfl
 have c3:=R4.out.cell (i:=3) rfl
 have c4:=R4.out.cell (i:=4) rfl
 have c5:=R4.out.cell (i:=5) rfl
 have c6:=R4.out.cell (i:=6) rfl
 have c7:=R4.out.cell (i:=7) rfl
 have c8:=R4.out.cell (i:=8) rfl
 have c9:=R4.out.cell (i:=9) rfl
 have q0:=Q4.out.cell (i:=0) rfl
 have q1:=Q4.out.cell (i:=1) rfl
 have q2:=Q4.out.cell (i:=2) rfl
 have q3:=Q4.out.cell (i:=3) rfl
 have q4:=Q4.out.cell (i:=4) rfl
 have KA:=hide (appendNumber_1 (.slice none 0 0) [] 6 BB W4 O4.out HBW.out (by omega) (by omega) (by simp))
 go_upto_region 5 with (go_at_call 123;(with_reducible refine KA.out.mono ?_);rintro e m0 ⟨z0,rfl,ho,hb2,hs2⟩;have Op0:=hide ho;have Yp0:Hid (Below BB W4 m0):=hide (Y4.out.trans hb2);have Xp0:Hid (Ext w m0):=hide (XW4.out.below HB0.out Yp0.out);have Rp0:=hide (hs2 hb _ _ (by decide) R4.out);have Qp0:=hide (hs2 hq _ _ (by decide) Q4.out);clear ho hb2 hs2)
 clear R4 Q4 O4 KA
 clear c0 c1 c2 c3 c4 c5 c6 c7 c8 c9 q0 q1 q2 q3 q4
 have c0:=Rp0.out.cell (i:=0) rfl
 have c1:=Rp0.out.cell (i:=1) rfl
 have c2:=Rp0.out.cell (i:=2) rfl
 have c3:=Rp0.out.cell (i:=3) rfl
 have c4:=Rp0.out.cell (i:=4) rfl
 have c5:=Rp0.out.cell (i:=5) rfl
 have c6:=Rp0.out.cell (i:=6) rfl
 have c7:=Rp0.out.cell (i:=7) rfl
 have c8:=Rp0.out.cell (i:=8) rfl
 have c9:=Rp0.out.cell (i:=9) rfl
 have q0:=Qp0.out.cell (i:=0) rfl
 have q1:=Qp0.out.cell (i:=1) rfl
 have q2:=Qp0.out.cell (i:=2) rfl
 have q3:=Qp0.out.cell (i:=3) rfl
 have q4:=Qp0.out.cell (i:=4) rfl
 obtain ⟨l0,HEp0⟩:∃l,Hid ([] ++ numN 1 6=l):=⟨_,hide rfl⟩
 rw [HEp0.out] at Op0
 have HLp0:Hid (l0.length≤1):=hide (by rw [← HEp0.out,List.length_append,numN_length 1 _ (by decide)];simp)
 have KA:=hide (appendNumber_8 z0 l0 tx BB m0 Op0.out (Nat.le_trans HBW.out Yp0.out.size) HTX.out.1 HTX.out.2 (by have:=HLp0.out;omega))
 go_upto_region 6 with (go_at_call 123;(with_reducible refine KA.out.mono ?_);rintro e m1 ⟨z1,rfl,ho,hb2,hs2⟩;have Op1:=hide ho;have Yp1:Hid (Below BB W4 m1):=hide (Yp0.out.trans hb2);have Xp1:Hid (Ext w m1):=hide (XW4.out.below HB0.out Yp1.out);have Rp1:=hide (hs2 hb _ _ (by decide) Rp0.out);have Qp1:=hide (hs2 hq _ _ (by decide) Qp0.out);clear ho hb2 hs2)
 clear Rp0 Qp0 Op0 KA
 clear c0 c1 c2 c3 c4 c5 c6 c7 c8 c9 q0 q1 q2 q3 q4
 have c0:=Rp1.out.cell (i:=0) rfl
 have c1:=Rp1.out.cell (i:=1) rfl
 have c2:=Rp1.out.cell (i:=2) rfl
 have c3:=Rp1.out.cell (i:=3) rfl
 have c4:=Rp1.out.cell (i:=4) rfl
 have c5:=Rp1.out.cell (i:=5) rfl
 have c6:=Rp1.out.cell (i:=6) rfl
 have c7:=Rp1.out.cell (i:=7) rfl
 have c8:=Rp1.out.cell (i:=8) rfl
 have c9:=Rp1.out.cell (i:=9) rfl
 have q0:=Qp1.out.cell (i:=0) rfl
 have q1:=Qp1.out.cell (i:=1) rfl
 have q2:=Qp1.out.cell (i:=2) rfl
 have q3:=Qp1.out.cell (i:=3) rfl
 have q4:=Qp1.out.cell (i:=4) rfl
 obtain ⟨l1,HEp1⟩:∃l,Hid (l0 ++ numN 8 tx=l):=⟨_,hide rfl⟩
 rw [HEp1.out] at Op1
 have HLp1:Hid (l1.length≤9):=hide (by rw [← HEp1.out,List.length_append,numN_length 8 _ (by decide)];have:=HLp0.out;omega)
 have KA:=hide (appendNumber_8 z1 l1 pv BB m1 Op1.out (Nat.le_trans HBW.out Yp1.out.size) HPV.out.1 HPV.out.2 (by have:=HLp1.out;omega))
 go_upto_region 8 with (go_at_call 123;(with_reducible refine KA.out.mono ?_);rintro e m2 ⟨z2,rfl,ho,hb2,hs2⟩;have Op2:=hide ho;have Yp2:Hid (Below BB W4 m2):=hide (Yp1.out.trans hb2);have Xp2:Hid (Ext w m2):=hide (XW4.out.below HB0.out Yp2.out);have Rp2:=hide (hs2 hb _ _ (by decide) Rp1.out);have Qp2:=hide (hs2 hq _ _ (by decide) Qp1.out);clear ho hb2 hs2)
 clear Rp1 Qp1 Op1 KA
 clear c0 c1 c2 c3 c4 c5 c6 c7 c8 c9 q0 q1 q2 q3 q4
 have c0:=Rp2.out.cell (i:=0) rfl
 have c1:=Rp2.out.cell (i:=1) rfl
 have c2:=Rp2.out.cell (i:=2) rfl
 have c3:=Rp2.out.cell (i:=3) rfl
 have c4:=Rp2.out.cell (i:=4) rfl
 have c5:=Rp2.out.cell (i:=5) rfl
 have c6:=Rp2.out.cell (i:=6) rfl
 have c7:=Rp2.out.cell (i:=7) rfl
 have c8:=Rp2.out.cell (i:=8) rfl
 have c9:=Rp2.out.cell (i:=9) rfl
 have q0:=Qp2.out.cell (i:=0) rfl
 have q1:=Qp2.out.cell (i:=1) rfl
 have q2:=Qp2.out.cell (i:=2) rfl
 have q3:=Qp2.out.cell (i:=3) rfl
 have q4:=Qp2.out.cell (i:=4) rfl
 obtain ⟨l2,HEp2⟩:∃l,Hid (l1 ++ numN 8 pv=l):=⟨_,hide rfl⟩
 rw [HEp2.out] at Op2
 have HLp2:Hid (l2.length≤17):=hide (by rw [← HEp2.out,List.length_append,numN_length 8 _ (by decide)];have:=HLp1.out;omega)
 have KA:=hide (appendCheck_any z2 l2 6 tx pv pg off nx A B D nb a na b' nd d op w m2 BB L HD.out Xp2.out HB0.out (Nat.le_trans HBW.out Yp2.out.size) HN.out hnd64 HLL.out Op2.out (by have:=HLp2.out;omega))
 go_upto_region 18 with (go_at_call 124;(with_reducible refine KA.out.mono ?_);rintro e m3 ⟨z3,rfl,ho,hb2,hs2⟩;have Op3:=hide ho;have Yp3:Hid (Below BB W4 m3):=hide (Yp2.out.trans hb2);have Xp3:Hid (Ext w m3):=hide (XW4.out.below HB0.out Yp3.out);have Rp3:=hide (hs2 hb _ _ (by decide) Rp2.out);have Qp3:=hide (hs2 hq _ _ (by decide) Qp2.out);clear ho hb2 hs2)
 clear Rp2 Qp2 Op2 KA
 clear c0 c1 c2 c3 c4 c5 c6 c7 c8 c9 q0 q1 q2 q3 q4
 have c0:=Rp3.out.cell (i:=0) rfl
 have c1:=Rp3.out.cell (i:=1) rfl
 have c2:=Rp3.out.cell (i:=2) rfl
 have c3:=Rp3.out.cell (i:=3) rfl
 have c4:=Rp3.out.cell (i:=4) rfl
 have c5:=Rp3.out.cell (i:=5) rfl
 have c6:=Rp3.out.cell (i:=6) rfl
 have c7:=Rp3.out.cell (i:=7) rfl
 have c8:=Rp3.out.cell (i:=8) rfl
 have c9:=Rp3.out.cell (i:=9) rfl
 have q0:=Qp3.out.cell (i:=0) rfl
 have q1:=Qp3.out.cell (i:=1) rfl
 have q2:=Qp3.out.cell (i:=2) rfl
 have q3:=Qp3.out.cell (i:=3) rfl
 have q4:=Qp3.out.cell (i:=4) rfl
 obtain ⟨l3,HEp3⟩:∃l,Hid (l2 ++ (numN 1 (cntN nd op) ++ dirB L)=l):=⟨_,hide rfl⟩
 rw [HEp3.out] at Op3
 have HLp3:Hid (l3.length≤658):=hide (by rw [← HEp3.out,List.length_append,List.length_append,numN_length 1 _ (by decide),dirB_length,HN.out];have:=HLp2.out;omega)
 have HREC:Hid (recB 6 tx pv pg off nx bf af L op=l3):=hide (by
  rw [← HEp3.out,← HEp2.out,← HEp1.out,← HEp0.out]
  simp [recB,hpv,hch,hnx,hck,HN.out])
 obtain ⟨AZ,cz,hvz,hcz,hrz⟩:=Op3.out.bytes
 subst hvz
 obtain ⟨nz,HNZ⟩:∃n,Hid (l3.length=n):=⟨_,hide rfl⟩
 rw [HNZ.out] at Op3 ⊢
 have KS:=hide (rcsumOf_any AZ l3 nz cz m3 hrz HNZ.out (by have:=HNZ.out;have:=HLp3.out;omega) (HT.out.ext Xp3.out))
 clear hcz hrz
 go_wp2_with (first
  | (go_at_call 125;(with_reducible refine KS.out.mono ?_);rintro e ws ⟨vs,rfl,hxs,hos⟩;obtain ⟨AS,cs,hvs,hcs,hrs⟩:=Own.bytes hos;subst hvs;have XS:=hide hxs;have RS:=hide hrs;clear hxs hrs hos hcs)
  | (refine wpList_catGr rfl (.tmp 67) (.tmp 69) rfl BB (.slice AZ nz cz) l3 (sumB l3) AS _ cs rfl rfl rfl (Op3.out.ext XS.out) RS.out (Nat.le_trans (Nat.le_trans HBW.out Yp3.out.size) XS.out.size) (by rw [show (sumB l3).length=4 from numN_length 4 _ (by decide)];have:=HLp3.out;omega) ?_;intro vf wf ho hb2 hs2))
 go_ret2
 refine ⟨vf,rfl, ?_,XW4.out.below HB0.out ((Yp3.out.trans (Below.mono XS.out (Nat.le_trans HBW.out Yp3.out.size))).trans hb2)⟩
 rw [fullB,HREC.out]
 exact own_mono ho HB0.out
theorem encode_yes (k:Int) (tx pv pg off nx:Int) (A B D:Option Addr) (nb a na b' nd d:Nat) (op:Bool) (w:World) (bf af:List UInt8) (L:List (Int×Int)) (ht:Tab w) (hb0:Rd w A bf) (ha0:Rd w B af) (hr:RdD w D L) (hbn:bf.length=nb) (han:af.length=na) (hn:L.length=nd) (hnd:nd≤140737488351232) (hna:na≤140737488351232) (hnb:nb≤140737488351232) (ho: -9223372036854775808≤off) (ho2:off < 9223372036854775808) (htx0:0≤tx) (htx:tx < 18446744073709551616) (hpv0:0≤pv) (hpv1:pv < 18446744073709551616) (hnx0:0≤nx) (hnx1:nx < 18446744073709551616) (hdl:∀e∈L,0≤e.2∧e.2 < 18446744073709551616) (hf:formN k pv pg off nx na nb nd L op=true):
  Calls Tryz.prog 97 #[.agg #[.int .u8 k, .int .u64 tx, .int .u64 pv, .int .i64 pg, .int .i64 off, .slice A nb a, .slice B na b', .int .u64 nx, .slice D nd d, .bool op]] w (EncP w (fullB k tx pv pg off nx bf af L op)):=by
 have hk:1≤k∧k≤6:=by
  simp only [formN,Bool.and_eq_true] at hf
  have h:=hf.1
  simpa [hok] using h
 rcases (by omega:k=1∨k=2∨k=3∨k=4∨k=5∨k=6) with rfl | rfl | rfl | rfl | rfl | rfl
 ·exact encode_1 tx pv pg off nx A B D nb a na b' nd d op w bf af L ht hb0 ha0 hr hbn han hn hnd hna hnb ho ho2 htx0 htx hpv0 hpv1 hnx0 hnx1 hdl hf
 ·exact encode_2 tx pv pg off nx A B D nb a na b' nd d op w bf af L ht hb0 ha0 hr hbn han hn hnd hna hnb ho ho2 htx0 htx hpv0 hpv1 hnx0 hnx1 hdl hf
 ·exact encode_3 tx pv pg off nx A B D nb a na b' nd d op w bf af L ht hb0 ha0 hr hbn han hn hnd hna hnb ho ho2 htx0 htx hpv0 hpv1 hnx0 hnx1 hdl hf
 ·exact encode_4 tx pv pg off nx A B D nb a na b' nd d op w bf af L ht hb0 ha0 hr hbn han hn hnd hna hnb ho ho2 htx0 htx hpv0 hpv1 hnx0 hnx1 hdl hf
 ·exact encode_5 tx pv pg off nx A B D nb a na b' nd d op w bf af L ht hb0 ha0 hr hbn han hn hnd hna hnb ho ho2 htx0 htx hpv0 hpv1 hnx0 hnx1 hdl hf
 ·exact encode_6 tx pv pg off nx A B D nb a na b' nd d op w bf af L ht hb0 ha0 hr hbn han hn hnd hna hnb ho ho2 htx0 htx hpv0 hpv1 hnx0 hnx1 hdl hf
def SoPost (w0 w:World) (Z:Pk) (s:Nat) (P:Pl) (r:Value) (S':St) (R':Sr) (e:Ending) (w':World):Prop:=∃Z',e= .returned r∧StoAt w0 w' Z' s S' R'∧Sfr Z s P w w'∧Z'.Later S'.P Z P w
section
variable {w0 w w1 w2 w':World} {Z Z':Pk} {s:Nat} {S S':St} {R R':Sr} {P P':Pl} {r:Value} {e:Ending}
theorem Sfr.trans (h:Sfr Z s P w w1) (k:Sfr Z' s P' w1 w2) (hl:Z'.Later P' Z P w):Sfr Z s P w w2:=
 ⟨k.os.trans h.os,k.tape.trans h.tape,k.output.trans h.output,Nat.le_trans h.size k.size,fun b hb hn hs=>(k.other b (Nat.lt_of_lt_of_le hb h.size) (fun e=>by
  rcases hl.has b e with h1 | h1
  ·exact hn h1
  ·omega) hs).trans (h.other b hb hn hs)⟩
theorem Sfr.ext (hx:Ext w w'):Sfr Z s P w w':=⟨hx.os,hx.tape,hx.output,hx.size,fun k hk _ _=>Below.block hx k hk⟩
theorem SoPost.pre (hx:Ext w w1) (h:SoPost w0 w1 Z s P r S' R' e w'):SoPost w0 w Z s P r S' R' e w':=by
 obtain ⟨Z',he,h1,h2,h3⟩:=h
 exact ⟨Z',he,h1,(Sfr.ext hx).trans h2 (Pk.Later.refl _ _ _),h3.up hx.size⟩
theorem StoAt.of_log {L':Lg} {D':Dk} (h:StoAt w0 w Z s S R) (hp:LPost w0 w Z.X r D' L' e w'):SoPost w0 w Z s S.P r ⟨D',L',S.P⟩ R e w':=by
 obtain ⟨Z',he,-,-,h1,h2,h3⟩:=h.pool.of_logE hp
 exact ⟨Z',he,h.later (S':=⟨D',L',S.P⟩) h1 h2 h3,Sfr.of h2,h3⟩
theorem srelease_any (h:StoAt w0 w Z s S R) (ok:S.L.Ok S.D):Calls Tryz.prog 65 #[.pointer (some ⟨s,0,none⟩)] w (SoPost w0 w Z s S.P (.tuple #[]) ⟨S.D,relL S.L S.L.held,S.P⟩ R):=by
 obtain ⟨wd,HWD⟩:∃wd,Hid (w.drew=wd):=⟨_,hide rfl⟩
 have HXD:Hid (Ext w wd):=hide (by rw [← HWD.out];exact Ext.drew _)
 have HD:=hide (h.ext_ HXD.out)
 have KH:Hid (Calls Tryz.prog 103 #[.pointer (some ⟨Z.X.q,0,none⟩)] wd (Same wd (.int .i64 (S.L.held:Int)))):=hide (held_any HD.out.pool.log)
 have KR:Hid (Calls Tryz.prog 102 #[.pointer (some ⟨Z.X.q,0,none⟩), .int .i64 (S.L.held:Int)] wd (SoPost w0 wd Z s S.P (.int .i64 0) ⟨S.D,relL S.L S.L.held,S.P⟩ R)):=hide ((release_ok HD.out.pool.log ok S.L.held (Nat.le_refl _)).mono fun e w' hh=>HD.out.of_log hh)
 obtain ⟨hd,HHD⟩:∃hd:Int,Hid ((S.L.held:Int)=hd):=⟨_,hide rfl⟩
 rw [HHD.out] at KH KR
 have c1:=h.blk.cell (i:=1) rfl
 have c1d:=HD.out.blk.cell (i:=1) rfl
 clear h ok
 go_enter Tryz.func65,Tryz.ntmps65
 go_upto_region 0 with fail
 go_region_held3 (fun w' =>w'.cell? ⟨s,1,none⟩=some (.pointer (some ⟨Z.X.q,0,none⟩))) (first | exact c1 | exact c1d | exact c12) (first
  | (go_at_call 103;rw [HWD.out];(with_reducible refine KH.out.mono ?_);rintro e w2 ⟨rfl,hw2⟩;subst hw2)
  | (go_at_call 102;(with_reducible refine KR.out.mono ?_);rintro e w3 ⟨Z3,rfl,h3,hf3,hl3⟩;have H3:=hide h3;have HF3:=hide hf3;have HL3:=hide hl3;have c12:w3.cell? ⟨s,1,none⟩=some (.pointer (some ⟨Z.X.q,0,none⟩)):=(by have h0:=H3.out.blk.cell (i:=1) rfl;rw [HL3.out.X.q] at h0;exact h0);clear h3 hf3 hl3))
 all_goals
  go_wp2_with fail
  go_end0
  exact SoPost.pre HXD.out ⟨Z3,rfl,H3.out,HF3.out,HL3.out⟩
theorem sadd_any (h:StoAt w0 w Z s S R) (ok:S.L.Ok S.D) (hs:S.L.hd.st < 576460752303423488) (htl:S.L.tail.length < 500000000) (v0 v1 v2 v3 v4 v5 v6 v7 v8 v9:Value) (l:List UInt8) (hl:l.length≤100000) (hold:Int) (hh: -9223372036854775808≤hold∧hold < 9223372036854775808) (KE:∀W,Ext w W→Calls Tryz.prog 97 #[.agg #[v0,v1,v2,v3,v4,v5,v6,v7,v8,v9]] W (EncP W l)):
  Calls Tryz.prog 58 #[.pointer (some ⟨s,0,none⟩), .agg #[v0,v1,v2,v3,v4,v5,v6,v7,v8,v9], .int .i64 hold] w (SoPost w0 w Z s S.P (apR S.L l hold) ⟨S.D,apL S.L l hold,S.P⟩ R):=by
 obtain ⟨wb,HWB⟩:∃wb,Hid (w.alloc (.cells #[v0,v1,v2,v3,v4,v5,v6,v7,v8,v9] 95)=wb):=⟨_,hide rfl⟩
 obtain ⟨gR,HGR⟩:∃gR,Hid (w.heap.size=gR):=⟨_,hide rfl⟩
 have HXB:Hid (Ext w wb):=hide (by rw [← HWB.out];exact Ext.alloc _ _)
 have HRB:Hid (Rw wb gR 95 [v0,v1,v2,v3,v4,v5,v6,v7,v8,v9]):=hide (by rw [← HWB.out,← HGR.out];exact Rw.new w 95 [v0,v1,v2,v3,v4,v5,v6,v7,v8,v9])
 have KE1:=hide (KE wb HXB.out)
 have H:=hide h
 have KAP:Hid (∀W A n c,Ext wb W→n=l.length→Rd W A l→(∀a,A=some a→wb.heap.size≤a.block∧a.block < W.heap.size)→Calls Tryz.prog 98 #[.pointer (some ⟨Z.X.q,0,none⟩), .slice A n c, .int .i64 hold] W (SoPost w0 W Z s S.P (apR S.L l hold) ⟨S.D,apL S.L l hold,S.P⟩ R)):=hide (fun W A n c hW hn hr hA=>by
  have hx:=HXB.out.trans hW
  have HW:=h.ext_ hx
  refine (append_any HW.pool.log ok hs A c n l hold hr hn.symm (by rw [hn];omega) (fun a ha=>⟨fun hh2=> ?_,(hA a ha).2⟩) htl hh).mono fun e w' hq=>HW.of_log hq
  obtain ⟨b1,b2⟩:=hA a ha
  have h1:=(h.ext_ HXB.out).pool.log.has_lt hh2
  omega)
 obtain ⟨er,HER⟩:∃er,Hid (apE S.L l.length hold=er):=⟨_,hide rfl⟩
 obtain ⟨ep,HEP⟩:∃ep:Int,Hid ((if er=0 then (endOf S.L:Int) else 0)=ep):=⟨_,hide rfl⟩
 have HAR:Hid (apR S.L l hold= .tuple #[.int .u64 ep, .int .i64 er]):=hide (by unfold apR;rw [HER.out,← HEP.out])
 rw [HAR.out] at KAP ⊢
 have r0:=HRB.out.cell (i:=0) rfl
 have r1:=HRB.out.cell (i:=1) rfl
 have r2:=HRB.out.cell (i:=2) rfl
 have r3:=HRB.out.cell (i:=3) rfl
 have r4:=HRB.out.cell (i:=4) rfl
 have r5:=HRB.out.cell (i:=5) rfl
 have r6:=HRB.out.cell (i:=6) rfl
 have r7:=HRB.out.cell (i:=7) rfl
 have r8:=HRB.out.cell (i:=8) rfl
 have r9:=HRB.out.cell (i:=9) rfl
 clear h ok hs htl hl hh KE
 go_enter Tryz.func58,Tryz.ntmps58
 go_upto_region 1 with fail
 rw [HWB.out,HGR.out]
 go_wp2_with (first
  | (go_at_call 97;(with_reducible refine KE1.out.mono ?_);rintro e w2 ⟨v2q,rfl,ho2,hx2⟩;have HX2:=hide hx2;have c1:=(H.out.ext_ (HXB.out.trans hx2)).blk.cell (i:=1) rfl;obtain ⟨A2,cc2,hv2,-,hr2⟩:=ho2.bytes;have hA2:∀a,A2=some a→wb.heap.size≤a.block∧a.block < w2.heap.size:=(fun a ha=>by rcases ho2.2 with ⟨hn,-⟩ | ⟨g,cap,cur,hg,hb,hh2,-⟩;(rw [hn] at hv2;injection hv2 with e1;rw [← e1] at ha;cases ha);rw [hg] at hv2;injection hv2 with e1;rw [← e1] at ha;injection ha with ha;subst ha;exact ⟨hb,(Array.getElem?_eq_some_iff.1 hh2).1⟩);subst hv2;have KA2:=hide (KAP.out w2 A2 l.length cc2 hx2 rfl hr2 hA2);clear ho2 hx2 hr2 hA2)
  | (go_at_call 98;(with_reducible refine KA2.out.mono ?_);rintro e w3 hp3;have HP3:=hide hp3;obtain ⟨Z3,rfl,-⟩:=hp3))
 go_ret2
 obtain ⟨Z4,he4,h4,hf4,hl4⟩:=HP3.out
 exact SoPost.pre (HXB.out.trans HX2.out) ⟨Z4,rfl,h4,hf4,hl4⟩
end
section
variable {w0 w w1 w2 w':World} {Z Z':Pk} {s:Nat} {S S':St} {R R':Sr}
theorem Sfr.set {P:Pl} (h:Sfr Z s P w w1) (i:Nat) (v:Value):Sfr Z s P w (w1.setCell ⟨s,i,none⟩ v):=⟨h.os,h.tape,h.output,by simpa using h.size,fun k h1 h2 h3=>(Below.heap_setCell w1 ⟨s,i,none⟩ v k h3).trans (h.other k h1 h2 h3)⟩
def plainB (k tx pv:Nat):List UInt8:=fullB (k:Int) (tx:Int) (pv:Int) 0 0 0 [] [] [] false
def noTx (R:Sr):Sr:= { R with op:=false,number:=0,first:=0,last:=0 }
theorem enc_plain (k tx pv:Nat) (hT:Tab w0) (hx:Ext w0 w) (htx:tx < 18446744073709551616) (hpv:pv < 18446744073709551616) (hf:formN (k:Int) (pv:Int) 0 0 0 0 0 0 [] false=true):Calls Tryz.prog 97 #[.agg #[.int .u8 (k:Int), .int .u64 (tx:Int), .int .u64 (pv:Int), .int .i64 0, .int .i64 0, .slice none 0 0, .slice none 0 0, .int .u64 0, .slice none 0 0, .bool false]] w (EncP w (plainB k tx pv)):=
 encode_yes (k:Int) (tx:Int) (pv:Int) 0 0 0 none none none 0 0 0 0 0 0 false w [] [] [] (hT.ext hx) (Rd.nil _ _) (Rd.nil _ _) (fun hn=>absurd rfl hn) rfl rfl rfl (by decide) (by decide) (by decide) (by decide) (by decide) (by omega) (by omega) (by omega) (by omega) (by decide) (by decide) (fun e he=>by cases he) hf
theorem send_any (h:StoAt w0 w Z s S R) (ok:S.L.Ok S.D) (hs:S.L.hd.st < 576460752303423488) (htl:S.L.tail.length < 500000000) (hT:Tab w0) (k:Nat) (hn:R.number < 18446744073709551616) (hl:R.last < 18446744073709551616) (hf:formN (k:Int) (R.last:Int) 0 0 0 0 0 0 [] false=true) (hlen:(plainB k R.number R.last).length≤100000):
  Calls Tryz.prog 66 #[.pointer (some ⟨s,0,none⟩), .int .u8 (k:Int)] w (SoPost w0 w Z s S.P (.int .i64 (apE S.L (plainB k R.number R.last).length 0)) ⟨S.D,apL S.L (plainB k R.number R.last) 0,S.P⟩ (if apE S.L (plainB k R.number R.last).length 0=0 then noTx R else R)):=by
 obtain ⟨l,HLB⟩:∃l,Hid (plainB k R.number R.last=l):=⟨_,hide rfl⟩
 obtain ⟨er,HER⟩:∃er,Hid (apE S.L l.length 0=er):=⟨_,hide rfl⟩
 obtain ⟨ep,HEP⟩:∃ep:Int,Hid ((if er=0 then (endOf S.L:Int) else 0)=ep):=⟨_,hide rfl⟩
 have HAR:Hid (apR S.L l 0= .tuple #[.int .u64 ep, .int .i64 er]):=hide (by unfold apR;rw [HER.out,← HEP.out])
 rw [HLB.out,HER.out]
 rw [HLB.out] at hlen
 have H:=hide h
 have KA:Hid (∀W,Ext w W→Calls Tryz.prog 58 #[.pointer (some ⟨s,0,none⟩), .agg #[.int .u8 (k:Int), .int .u64 (R.number:Int), .int .u64 (R.last:Int), .int .i64 0, .int .i64 0, .slice none 0 0, .slice none 0 0, .int .u64 0, .slice none 0 0, .bool false], .int .i64 0] W (SoPost w0 W Z s S.P (.tuple #[.int .u64 ep, .int .i64 er]) ⟨S.D,apL S.L l 0,S.P⟩ R)):=hide (fun W hW=>by
  have k0:=sadd_any (h.ext_ hW) ok hs htl _ _ _ _ _ _ _ _ _ _ l hlen 0 (by decide) (fun W2 hW2=>by
   have k1:=enc_plain (w:=W2) k R.number R.last hT ((h.ext_ hW).pool.log.ext.trans hW2) hn hl hf
   rw [HLB.out] at k1
   exact k1)
  rw [HAR.out] at k0
  exact k0)
 have c6:=h.blk.cell (i:=6) rfl
 have c8:=h.blk.cell (i:=8) rfl
 have c6d:=(h.ext_ (Ext.drew w)).blk.cell (i:=6) rfl
 have c8d:=(h.ext_ (Ext.drew w)).blk.cell (i:=8) rfl
 clear h ok hs htl hT hn hl hf hlen
 go_enter Tryz.func66,Tryz.ntmps66
 go_upto_region 1 with fail
 go_cut [5,6] from 7 to 23 (fun _ v wx=>v= .int .i64 er∧∃Z4,Hid (StoAt w0 wx Z4 s ⟨S.D,apL S.L l 0,S.P⟩ R)∧Hid (Sfr Z s S.P w wx)∧Hid (Z4.Later S.P Z S.P w))
 case first=>
  go_region_law (go_simp;go_at_call 58;(with_reducible refine (KA.out _ (Ext.drew _)).mono ?_);rintro e w3 hp;obtain ⟨Z3,rfl,h3,hf3,hl3⟩:=SoPost.pre (Ext.drew w) hp;have H3:=hide h3;have HF3:=hide hf3;have HL3:=hide hl3;clear hp h3 hf3 hl3)
  all_goals (go_wp2_with fail;go_meet)
  all_goals exact ⟨rfl,Z3,H3,HF3,HL3⟩
 case rest=>
 obtain ⟨rfl,Z3,H3,HF3,HL3⟩:=hcut
 obtain ⟨w3,HW3E⟩:∃w3,w3=wc:=⟨_,rfl⟩
 subst HW3E
 clear c6 c8 c6d c8d
 by_cases he:er=0
 ·subst he
  have c5:=H3.out.blk.cell (i:=5) rfl
  have c6:=H3.out.blk.cell (i:=6) rfl
  have c7:=H3.out.blk.cell (i:=7) rfl
  have c8:=H3.out.blk.cell (i:=8) rfl
  have f5:=H3.out.blk.frozen 5
  have f6:=H3.out.blk.frozen 6
  have f7:=H3.out.blk.frozen 7
  have f8:=H3.out.blk.frozen 8
  have h5:=H3.out.put 5 (.bool false) { R with op:=false } rfl
  have h6:=h5.put 6 (.int .u64 0) { R with op:=false,number:=0 } rfl
  have h7:=h6.put 7 (.int .u64 0) { R with op:=false,number:=0,first:=0 } rfl
  have H8:=hide (h7.put 8 (.int .u64 0) { R with op:=false,number:=0,first:=0,last:=0 } rfl)
  clear h5 h6 h7
  go_wp2
  go_ret
  exact ⟨Z3,rfl,H8.out,(((HF3.out.set 5 _).set 6 _).set 7 _).set 8 _,HL3.out⟩
 ·go_wp2
  go_ret
  exact ⟨Z3,rfl,H3.out,HF3.out,HL3.out⟩
end
section
variable {w0 w w':World} {X:Bk} {Z:Pk} {D:Dk} {L:Lg} {P:Pl}
theorem LgAt.has_ge (h:LgAt w0 w X D L) {k:Nat} (hk:X.has k):w0.heap.size≤k:=by
 rcases hk with rfl | rfl | rfl | rfl | ⟨a,ha,rfl⟩ | hk
 ·exact h.base
 ·exact h.disk.base.1
 ·exact h.disk.base.2.1
 ·exact h.disk.base.2.2
 ·exact (own_base h.disk.pen a ha).1
 ·exact (own_block h.tail k hk).1
theorem PlAt.has_ge (h:PlAt w0 w Z D L P) {k:Nat} (hk:Z.has P k):w0.heap.size≤k:=by
 rcases hk with hk | rfl | rfl | rfl | ⟨i,f,hf,rfl⟩
 ·exact h.log.has_ge hk
 ·exact h.base.1
 ·exact h.base.2.1
 ·exact h.base.2.2.1
 ·exact h.base.2.2.2 i f hf
theorem pwrite_gen {c:Nat} (h:PlAt w0 w Z D L P) (ft:St.Fit ⟨D,L,P⟩ c) (hc:c≤400000) (hT:Tab w0) (x:Int) (S:St) (hp:pageR ⟨D,L,P⟩ x=(0,S)) (off:Nat) (A:Option Addr) (m:List UInt8) (n cc:Nat) (hn:m.length=n) (hm:off + n≤504) (hA:∀w',Pfr Z P w w'→Rd w' A m) (lsn:Nat):
  Calls Tryz.prog 96 #[.pointer (some ⟨Z.q,0,none⟩), .int .i64 x, .int .i64 (off:Int), .slice A n cc, .int .u64 (lsn:Int)] w (WrP w0 w Z P x.toNat S off m lsn):=by
 have KP:=hide (page_had h ft hc hT x S hp)
 have FT:Hid (S.Fit (c + L.hd.cn + 4)):=hide (by have h1:=(pageR_fit ft hc x).1;rw [hp] at h1;exact h1)
 obtain ⟨i,HI⟩:∃i,Hid (x.toNat=i):=⟨_,hide rfl⟩
 rw [HI.out] at KP ⊢
 have HA:=hide hA
 have HM:=hide hm
 have HN:=hide hn
 have h1:¬(off:Int) < 0:=by omega
 have h2:¬(504:Int) - (n:Int) < (off:Int):=by omega
 have h3:IntKind.i64.wrap ((504:Int) - (n:Int))=(504:Int) - (n:Int):=by rw [IntKind.wrap_i64];omega
 clear h ft hc hT hp hA hm hn
 go_enter Tryz.func96,Tryz.ntmps96
 go_upto_region 8 with (go_at_call 60;(with_reducible refine KP.out.mono ?_);rintro e w2 ⟨Z2,f,b,rfl,hb2,hf2,hl2,hpf2,hn2⟩;have HB2:=hide hb2;have HF2:=hide hf2;have HL2:=hide hl2;have HPF2:=hide hpf2;have HPN2:=hide hn2;clear hb2 hf2 hl2 hpf2 hn2)
 have h5:=(FT.out.pool.page i f HF2.out).2
 have hr:=HL2.out.fr i f HF2.out
 rw [HB2.out] at hr
 have hA2:Rd w2 A m:=HA.out w2 HPF2.out
 have KCH:=hide (change_any b f h5.by_ hr off A m n cc HN.out HM.out hA2 lsn)
 clear h5 hr hA2 h1 h2 h3
 go_wp2_with (go_at_call 120;(with_reducible refine KCH.out.mono ?_);rintro e w3 ⟨rfl,hr3,ho3⟩;have HR3:=hide hr3;have HO3:=hide ho3;clear hr3 ho3)
 go_ret
 obtain ⟨q1,q2⟩:=setS_at (f:=chF f off m lsn) HL2.out HF2.out HO3.out.rest (fun k hk=>HO3.out.other k (by rw [HB2.out] at hk;exact hk)) (by rw [HB2.out];exact HR3.out)
 exact ⟨f,HF2.out,Z2,rfl,q1,HPF2.out.trans q2 HPN2.out,HPN2.out.trans (setS_later HF2.out) HPF2.out.size⟩
end
section
variable {w0 w w1 w2 w':World} {Z Z':Pk} {s c:Nat} {S S' S1:St} {R R':Sr}
theorem schange_ok (h:StoAt w0 w Z s S R) (ok:S.L.Ok S.D) (hs:S.L.hd.st < 576460752303423488) (htl:S.L.tail.length < 500000000) (hT:Tab w0) (v0 v1 v2 v5 v7 v8 v9:Value) (pg off:Nat) (A:Option Addr) (af:List UInt8) (n cc:Nat) (hn:af.length=n) (hoff:off + n≤504) (hA:∀W,Sfr Z s S.P w W→Rd W A af) (l:List UInt8) (hl:l.length≤100000) (hold:Int) (hh: -9223372036854775808≤hold∧hold < 9223372036854775808) (KE:∀W,Ext w W→Calls Tryz.prog 97 #[.agg #[v0,v1,v2, .int .i64 (pg:Int), .int .i64 (off:Int),v5, .slice A n cc,v7,v8,v9]] W (EncP W l)) (hap:apE S.L l.length hold=0) (ft:(⟨S.D,apL S.L l hold,S.P⟩:St).Fit c) (hc:c≤400000) (hp:pageR ⟨S.D,apL S.L l hold,S.P⟩ (pg:Int)=(0,S1)):
  Calls Tryz.prog 63 #[.pointer (some ⟨s,0,none⟩), .agg #[v0,v1,v2, .int .i64 (pg:Int), .int .i64 (off:Int),v5, .slice A n cc,v7,v8,v9], .int .i64 hold] w (fun e w' =>∃f,S1.P.H pg=some f∧SoPost w0 w Z s S.P (.int .i64 0) (setS S1 pg (chF f off af (endOf S.L))) { R with last:=endOf S.L } e w'):=by
 obtain ⟨wb,HWB⟩:∃wb,Hid (w.alloc (.cells #[v0,v1,v2, .int .i64 (pg:Int), .int .i64 (off:Int),v5, .slice A n cc,v7,v8,v9] 95)=wb):=⟨_,hide rfl⟩
 obtain ⟨gR,HGR⟩:∃gR,Hid (w.heap.size=gR):=⟨_,hide rfl⟩
 have HXB:Hid (Ext w wb):=hide (by rw [← HWB.out];exact Ext.alloc _ _)
 have HRB:Hid (Rw wb gR 95 [v0,v1,v2, .int .i64 (pg:Int), .int .i64 (off:Int),v5, .slice A n cc,v7,v8,v9]):=hide (by rw [← HWB.out,← HGR.out];exact Rw.new w 95 [v0,v1,v2, .int .i64 (pg:Int), .int .i64 (off:Int),v5, .slice A n cc,v7,v8,v9])
 have HB:=hide (h.ext_ HXB.out)
 obtain ⟨en,HEN⟩:∃en,Hid (endOf S.L=en):=⟨_,hide rfl⟩
 have HAR:Hid (apR S.L l hold= .tuple #[.int .u64 (en:Int), .int .i64 0]):=hide (by unfold apR;rw [hap,if_pos rfl,HEN.out])
 obtain ⟨SA,HSA⟩:∃SA:St,Hid ((⟨S.D,apL S.L l hold,S.P⟩:St)=SA):=⟨_,hide rfl⟩
 have HSP:Hid (SA.P=S.P):=hide (by rw [← HSA.out])
 have KA:Hid (Calls Tryz.prog 58 #[.pointer (some ⟨s,0,none⟩), .agg #[v0,v1,v2, .int .i64 (pg:Int), .int .i64 (off:Int),v5, .slice A n cc,v7,v8,v9], .int .i64 hold] wb (SoPost w0 wb Z s S.P (.tuple #[.int .u64 (en:Int), .int .i64 0]) SA R)):=hide (by
  have k0:=sadd_any HB.out ok hs htl _ _ _ _ _ _ _ _ _ _ l hl hold hh (fun W hW=>KE W (HXB.out.trans hW))
  rw [HAR.out,HSA.out] at k0
  exact k0)
 rw [HSA.out] at ft hp
 rw [HEN.out]
 have HGN:Hid (¬Z.has S.P gR∧gR≠s∧gR < wb.heap.size):=hide (by
  refine ⟨fun hh2=> ?_, ?_,HRB.out.lt⟩
  ·have h1:=h.pool.has_lt hh2
   have:=HGR.out
   omega
  ·have h1:=h.blk.lt
   have:=HGR.out
   omega)
 have KW:Hid (∀W Z2,StoAt w0 W Z2 s SA { R with last:=en } →(∀W',Pfr Z2 SA.P W W'→Rd W' A af)→Calls Tryz.prog 96 #[.pointer (some ⟨Z2.q,0,none⟩), .int .i64 (pg:Int), .int .i64 (off:Int), .slice A n cc, .int .u64 (en:Int)] W (fun e w' =>∃f,S1.P.H pg=some f∧SoPost w0 W Z2 s SA.P (.int .i64 0) (setS S1 pg (chF f off af en)) { R with last:=en } e w')):=hide (fun W Z2 hW hr=>by
  refine (pwrite_gen hW.pool ft hc hT (pg:Int) S1 hp off A af n cc hn hoff hr en).mono fun e w' hh2=> ?_
  obtain ⟨f,hf,Z3,he,h1,h2,h3⟩:=hh2
  rw [Int.toNat_natCast] at hf h1 h3
  exact ⟨f,hf,Z3,he,hW.later (S':=setS S1 pg (chF f off af en)) h1 h2 h3,Sfr.of h2,h3⟩)
 have HAF:=hide hA
 have r0:=HRB.out.cell (i:=0) rfl
 have r1:=HRB.out.cell (i:=1) rfl
 have r2:=HRB.out.cell (i:=2) rfl
 have r3:=HRB.out.cell (i:=3) rfl
 have r4:=HRB.out.cell (i:=4) rfl
 have r5:=HRB.out.cell (i:=5) rfl
 have r6:=HRB.out.cell (i:=6) rfl
 have r7:=HRB.out.cell (i:=7) rfl
 have r8:=HRB.out.cell (i:=8) rfl
 have r9:=HRB.out.cell (i:=9) rfl
 clear h ok hs htl hT hn hoff hA hl hh KE hap ft hc hp
 go_enter Tryz.func63,Tryz.ntmps63
 go_upto_region 1 with fail
 rw [HWB.out,HGR.out]
 go_upto_region 4 with (go_at_call 58;(with_reducible refine KA.out.mono ?_);rintro e w2 ⟨Z2,rfl,h2,hf2,hl2⟩;have H2:=hide h2;have HF2:=hide hf2;have HL2:=hide hl2;clear h2 hf2 hl2)
 clear r0 r1 r2 r3 r4 r5 r6 r7 r8 r9
 have c8:=H2.out.blk.cell (i:=8) rfl
 have f8:=H2.out.blk.frozen 8
 obtain ⟨w3,HW3⟩:∃w3,Hid (w2.setCell ⟨s,8,none⟩ (.int .u64 (en:Int))=w3):=⟨_,hide rfl⟩
 have H3:Hid (StoAt w0 w3 Z2 s SA { R with last:=en }):=hide (by rw [← HW3.out];exact H2.out.put 8 _ { R with last:=en } rfl)
 have HF3:Hid (Sfr Z s S.P wb w3):=hide (by rw [← HW3.out];exact HF2.out.set 8 _)
 have HR3:Hid (Rw w3 gR 95 [v0,v1,v2, .int .i64 (pg:Int), .int .i64 (off:Int),v5, .slice A n cc,v7,v8,v9]):=hide ((HF3.out.other gR HGN.out.2.2 HGN.out.1 HGN.out.2.1).trans HRB.out)
 go_upto_region 5 with fail
 rw [HW3.out]
 clear c8 f8
 obtain ⟨wd,HWD⟩:∃wd,Hid (w3.drew=wd):=⟨_,hide rfl⟩
 have HXD:Hid (Ext w3 wd):=hide (by rw [← HWD.out];exact Ext.drew _)
 have KW2:=hide (KW.out wd Z2 (H3.out.ext_ HXD.out) (fun W' hW' =>HAF.out W' (((Sfr.ext HXB.out).trans HF3.out (Pk.Later.refl _ _ _)).trans ((Sfr.ext (Z:=Z2) (s:=s) (P:=SA.P) HXD.out).trans (Sfr.of hW') (Pk.Later.refl _ _ _)) (HL2.out.up HXB.out.size))))
 have c2:=H3.out.blk.cell (i:=2) rfl
 have r3:=HR3.out.cell (i:=3) rfl
 have r4:=HR3.out.cell (i:=4) rfl
 have r6:=HR3.out.cell (i:=6) rfl
 go_still_tail 11,(by kernel_rfl)
 change wpList _ _ _ _ _ w3.drew
 rw [HWD.out]
 go_wp2_with (go_at_call 96;(with_reducible refine KW2.out.mono ?_);rintro e w4 ⟨f4,hf4,Z4,rfl,h4,hfr4,hl4⟩;have HF4:=hide hf4;have H4:=hide h4;have HFR4:=hide hfr4;have HL4:=hide hl4;clear hf4 h4 hfr4 hl4)
 go_ret
 have hl2:=HL2.out.up HXB.out.size
 exact ⟨f4,HF4.out,Z4,rfl,H4.out,((Sfr.ext HXB.out).trans HF3.out (Pk.Later.refl _ _ _)).trans ((Sfr.ext HXD.out).trans HFR4.out (Pk.Later.refl _ _ _)) hl2,hl2.trans HL4.out (Nat.le_trans HXB.out.size (Nat.le_trans HF3.out.size HXD.out.size))⟩
end
section
variable {w0 w w1 w2 w':World} {Z Z':Pk} {s c:Nat} {S S' S1:St} {R R':Sr}
theorem spages_any (h:StoAt w0 w Z s S R) (hc:R.count < 100000) (hd:S.D.dur.length≤4096):Calls Tryz.prog 17 #[.pointer (some ⟨s,0,none⟩)] w (fun e w' =>e= .returned (.int .i64 ((S.D.dur.length:Int) - ((1 + R.count:Nat):Int)))∧∃k,w' =w.drewN k):=by
 have c0:=h.blk.cell (i:=0) rfl
 have c3:=h.blk.cell (i:=3) rfl
 have KL:Hid (∀k,Calls Tryz.prog 27 #[.pointer (some ⟨Z.X.g,0,none⟩)] (w.drewN k) (fun e w' =>e= .returned (.int .i64 (S.D.dur.length:Int))∧∃m,w' =(w.drewN k).drewN m)):=hide (fun k=>(len_any (h.ext_ ((Ext.refl w).drewN k)).pool.log.disk).mono fun _ _ hh=>⟨hh.1,0,hh.2.symm⟩)
 have KP:Hid (∀k,Calls Tryz.prog 26 #[.int .i64 (R.count:Int)] (w.drewN k) (fun e w' =>e= .returned (.int .i64 ((1 + R.count:Nat):Int))∧∃m,w' =(w.drewN k).drewN m)):=hide (fun k=>(spagesAt_any R.count (by omega) (w.drewN k)).mono fun _ _ hh=>⟨hh.1,0,hh.2.symm⟩)
 obtain ⟨dl,HDL⟩:∃dl:Int,Hid ((S.D.dur.length:Int)=dl):=⟨_,hide rfl⟩
 obtain ⟨pa,HPA⟩:∃pa:Int,Hid (((1 + R.count:Nat):Int)=pa):=⟨_,hide rfl⟩
 have hw:IntKind.i64.wrap (dl - pa)=dl - pa:=by rw [IntKind.wrap_i64];have:=HDL.out;have:=HPA.out;omega
 rw [HDL.out] at KL ⊢
 rw [HPA.out] at KP ⊢
 clear h hc hd
 go_enter Tryz.func17,Tryz.ntmps17
 go_upto_region 3 with fail
 go_quiet (first
  | (go_at_call 27;exact Calls.quiet_of (KL.out _))
  | (go_at_call 26;exact Calls.quiet_of (KP.out _)))
 go_wp2
 go_ret
 exact ⟨rfl,_,rfl⟩
theorem sseen_same (e:Int) (he:e≠8) (w:World):Calls Tryz.prog 34 #[.pointer (some ⟨s,0,none⟩), .int .i64 e] w (Same w (.int .i64 e)):=by
 go_enter Tryz.func34,Tryz.ntmps34
 go_wp2
 go_ret
 exact ⟨rfl,rfl⟩
theorem sread_ok (h:StoAt w0 w Z s S R) (ft:S.Fit c) (hc:c≤400000) (hT:Tab w0) (hr:readyE S.D R=0) (x:Int) (hp:pageR S x=(0,S1)):Calls Tryz.prog 11 #[.pointer (some ⟨s,0,none⟩), .int .i64 x] w (fun e w' =>∃f A cc,S1.P.H x.toNat=some f∧Rd w' A f.by_∧SoPost w0 w Z s S.P (.tuple #[.slice A 504 cc, .int .i64 0]) S1 R e w'):=by
 have KR:=hide (sready_any h)
 rw [hr] at KR
 have HSE:Hid (seenR R 0=R):=hide (by unfold seenR;rw [if_neg (by decide)])
 rw [HSE.out] at KR
 have H:=hide h
 have KP:Hid (∀W,StoAt w0 W Z s S R→Calls Tryz.prog 35 #[.pointer (some ⟨Z.q,0,none⟩), .int .i64 x] W (fun e w' =>∃f A cc Z2,S1.P.H x.toNat=some f∧Rd w' A f.by_∧e= .returned (.tuple #[.slice A 504 cc, .int .u64 (f.last:Int), .int .i64 0])∧StoAt w0 w' Z2 s S1 R∧Sfr Z s S.P W w'∧Z2.Later S1.P Z S.P W)):=hide (fun W hW=>(pread_ok hW.pool ft hc hT x S1 hp).mono fun e w' hh=>by
  obtain ⟨f,Z',A,cc,hf,he,hrd,-,hl,hpf,hn2⟩:=hh
  exact ⟨f,A,cc,Z',hf,hrd,he,hW.later hl hpf hn2,Sfr.of hpf,hn2⟩)
 have KS:=hide (fun W=>sseen_same (s:=s) 0 (by decide) W)
 clear h ft hc hT hr hp
 go_enter Tryz.func11,Tryz.ntmps11
 go_wp2_with (first
  | (go_at_call 32;(with_reducible refine KR.out.mono ?_);rintro e w2 ⟨rfl,h2,hf2⟩;have H2:=hide h2;have HF2:=hide hf2;have c2:=h2.blk.cell (i:=2) rfl;clear h2 hf2)
  | (go_at_call 35;(with_reducible refine (KP.out w2 H2.out).mono ?_);rintro e w3 ⟨f3,A3,cc3,Z3,hf3,hrd3,rfl,h3,hfr3,hl3⟩;have HF3:=hide hf3;have HRD3:=hide hrd3;have H3:=hide h3;have HFR3:=hide hfr3;have HL3:=hide hl3;clear hf3 hrd3 h3 hfr3 hl3 c2)
  | (go_at_call 34;(with_reducible refine (KS.out w3).mono ?_);rintro e w4 ⟨rfl,hw4⟩;subst hw4))
 go_ret2
 exact ⟨f3,A3,cc3,HF3.out,HRD3.out,Z3,rfl,H3.out,HF2.out.trans HFR3.out (Pk.Later.refl _ _ _),HL3.out.up HF2.out.size⟩
end
section
variable {w0 w w1 w2 w':World} {Z Z' Z1:Pk} {s c:Nat} {S S' S1 S2:St} {R R' R1 R2:Sr} {P:Pl} {r:Value} {e:Ending}
theorem SoPost.then {P1:Pl} (hf:Sfr Z s P w w1) (hl:Z1.Later P1 Z P w) (h:SoPost w0 w1 Z1 s P1 r S' R' e w'):SoPost w0 w Z s P r S' R' e w':=by
 obtain ⟨Z2,he,h1,h2,h3⟩:=h
 exact ⟨Z2,he,h1,hf.trans h2 hl,hl.trans h3 hf.size⟩
theorem relL_ok (ok:S.L.Ok S.D) (n:Nat):(relL S.L n).Ok S.D:=⟨ok.hd,ok.cn,ok.at_,ok.sure,ok.tail,by show S.L.held - n < _;have:=ok.held;omega⟩
theorem scommit_ok (h:StoAt w0 w Z s S R) (ok:S.L.Ok S.D) (hs:S.L.hd.st < 576460752303423488) (htl:S.L.tail.length < 500000000) (hT:Tab w0) (hn:R.number < 18446744073709551616) (hl:R.last < 18446744073709551616) (hf:formN 4 (R.last:Int) 0 0 0 0 0 0 [] false=true) (hlen:(plainB 4 R.number R.last).length≤100000) (hap:apE (relL S.L S.L.held) (plainB 4 R.number R.last).length 0=0) (L2:Lg) (hL2:apL (relL S.L S.L.held) (plainB 4 R.number R.last) 0=L2) (ft:(⟨S.D,L2,S.P⟩:St).Fit c) (hc:c≤400000):
  Calls Tryz.prog 38 #[.pointer (some ⟨s,0,none⟩)] w (SoPost w0 w Z s S.P (.int .i64 (flE S.D L2)) ⟨flD S.D L2,flL S.D L2,S.P⟩ (noTx R)):=by
 have KR:=hide (srelease_any h ok)
 have KE:Hid (∀W Z1,StoAt w0 W Z1 s ⟨S.D,relL S.L S.L.held,S.P⟩ R→Calls Tryz.prog 66 #[.pointer (some ⟨s,0,none⟩), .int .u8 4] W (SoPost w0 W Z1 s S.P (.int .i64 0) ⟨S.D,L2,S.P⟩ (noTx R))):=hide (fun W Z1 hW=>by
  have k0:=send_any hW (relL_ok ok S.L.held) hs htl hT 4 hn hl hf hlen
  rw [hap,if_pos rfl,hL2] at k0
  exact k0)
 have KF:Hid (∀W Z1,StoAt w0 W Z1 s ⟨S.D,L2,S.P⟩ (noTx R)→Calls Tryz.prog 67 #[.pointer (some ⟨Z1.X.q,0,none⟩)] W (SoPost w0 W Z1 s S.P (.int .i64 (flE S.D L2)) ⟨flD S.D L2,flL S.D L2,S.P⟩ (noTx R))):=hide (fun W Z1 hW=>(flush_any (show LgAt w0 W Z1.X S.D L2 from hW.pool.log) ft.log ft.bd (by have h1:S.D.pen.length≤c:=ft.pen;have h2:L2.hd.cn≤4096:=ft.log.cn.2;omega) (by have h1:S.D.ops≤c:=ft.ops;have h2:L2.hd.cn≤4096:=ft.log.cn.2;omega) (by have h1:L2.tail.length≤480 * L2.hd.cn:=ft.tail;have h2:L2.hd.cn≤4096:=ft.log.cn.2;omega) hT).mono fun e w' hh=>hW.of_log hh)
 obtain ⟨fe,HFE⟩:∃fe,Hid (flE S.D L2=fe):=⟨_,hide rfl⟩
 rw [HFE.out] at KF ⊢
 clear h ok hs htl hT hn hl hf hlen hap hL2 ft hc
 go_enter Tryz.func38,Tryz.ntmps38
 go_wp2_with (first
  | (go_at_call 65;(with_reducible refine KR.out.mono ?_);rintro e w1 ⟨Z1,rfl,h1,hf1,hl1⟩;have H1:=hide h1;have HF1:=hide hf1;have HL1:=hide hl1;clear h1 hf1 hl1)
  | (go_at_call 66;(with_reducible refine (KE.out w1 Z1 H1.out).mono ?_);rintro e w2 ⟨Z2,rfl,h2,hf2,hl2⟩;have H2:=hide h2;have HF2:=hide hf2;have HL2:=hide hl2;have c1:=h2.blk.cell (i:=1) rfl;clear h2 hf2 hl2)
  | (go_at_call 67;(with_reducible refine (KF.out w2 Z2 H2.out).mono ?_);rintro e w3 ⟨Z3,rfl,h3,hf3,hl3⟩;have H3:=hide h3;have HF3:=hide hf3;have HL3:=hide hl3;clear h3 hf3 hl3))
 go_ret
 exact SoPost.then HF1.out HL1.out (SoPost.then HF2.out HL2.out ⟨Z3,rfl,H3.out,HF3.out,HL3.out⟩)
end
section
variable {w0 w w1 w2 w':World} {Z Z' Z1:Pk} {s c:Nat} {S S' S1 S2:St} {R R' R1 R2:Sr} {P:Pl} {r:Value} {e:Ending}
theorem ssizeOf_any (v0 v1 v2 v3 v4 v5 v6 v7 v8 v9:Value) (l:List UInt8) (hl:l.length≤100000) (KE:∀W,Ext w W→Calls Tryz.prog 97 #[.agg #[v0,v1,v2,v3,v4,v5,v6,v7,v8,v9]] W (EncP W l)):
  Calls Tryz.prog 59 #[.agg #[v0,v1,v2,v3,v4,v5,v6,v7,v8,v9]] w (fun e w' =>e= .returned (.int .i64 ((2 + l.length:Nat):Int))∧Ext w w'):=by
 obtain ⟨wb,HWB⟩:∃wb,Hid (w.alloc (.cells #[v0,v1,v2,v3,v4,v5,v6,v7,v8,v9] 95)=wb):=⟨_,hide rfl⟩
 obtain ⟨gR,HGR⟩:∃gR,Hid (w.heap.size=gR):=⟨_,hide rfl⟩
 have HXB:Hid (Ext w wb):=hide (by rw [← HWB.out];exact Ext.alloc _ _)
 have HRB:Hid (Rw wb gR 95 [v0,v1,v2,v3,v4,v5,v6,v7,v8,v9]):=hide (by rw [← HWB.out,← HGR.out];exact Rw.new w 95 [v0,v1,v2,v3,v4,v5,v6,v7,v8,v9])
 have KE1:=hide (KE wb HXB.out)
 obtain ⟨ln,HLN⟩:∃ln,Hid (l.length=ln):=⟨_,hide rfl⟩
 have hw:IntKind.i64.wrap (2 + (ln:Int))=((2 + ln:Nat):Int):=by rw [IntKind.wrap_i64];have:=HLN.out;omega
 rw [HLN.out]
 have r0:=HRB.out.cell (i:=0) rfl
 have r1:=HRB.out.cell (i:=1) rfl
 have r2:=HRB.out.cell (i:=2) rfl
 have r3:=HRB.out.cell (i:=3) rfl
 have r4:=HRB.out.cell (i:=4) rfl
 have r5:=HRB.out.cell (i:=5) rfl
 have r6:=HRB.out.cell (i:=6) rfl
 have r7:=HRB.out.cell (i:=7) rfl
 have r8:=HRB.out.cell (i:=8) rfl
 have r9:=HRB.out.cell (i:=9) rfl
 clear hl KE
 go_enter Tryz.func59,Tryz.ntmps59
 go_upto_region 1 with fail
 rw [HWB.out,HGR.out]
 go_wp2_with (go_at_call 97;(with_reducible refine KE1.out.mono ?_);rintro e w2 ⟨v2q,rfl,ho2,hx2⟩;have HX2:=hide hx2;obtain ⟨A2,cc2,hv2,-,-⟩:=ho2.bytes;rw [HLN.out] at hv2;subst hv2;clear ho2 hx2)
 go_ret
 exact ⟨rfl,HXB.out.trans HX2.out⟩
theorem sbegin_ok (h:StoAt w0 w Z s S R) (ok:S.L.Ok S.D) (hs:S.L.hd.st < 576460752303423488) (htl:S.L.tail.length < 500000000) (hT:Tab w0) (hcn:R.count < 100000) (hbg:R.begun < 1000000000000) (hroom:¬roomOf S.L < ((R.count / 2 * 480:Nat):Int)) (hlen:(plainB 1 (R.begun + 1) 0).length≤100000) (hlen5:(plainB 5 0 0).length≤100000) (hap:apE S.L (plainB 1 (R.begun + 1) 0).length ((2 + (plainB 5 0 0).length:Nat):Int)=0):
  Calls Tryz.prog 33 #[.pointer (some ⟨s,0,none⟩)] w (SoPost w0 w Z s S.P (.int .i64 0) ⟨S.D,apL S.L (plainB 1 (R.begun + 1) 0) ((2 + (plainB 5 0 0).length:Nat):Int),S.P⟩ { R with begun:=R.begun + 1,op:=true,number:=R.begun + 1,first:=endOf S.L,last:=endOf S.L }):=by
 obtain ⟨hold,HHO⟩:∃hold:Int,Hid (((2 + (plainB 5 0 0).length:Nat):Int)=hold):=⟨_,hide rfl⟩
 have HHB:Hid (-9223372036854775808≤hold∧hold < 9223372036854775808):=hide (by rw [← HHO.out];omega)
 rw [HHO.out] at hap ⊢
 obtain ⟨bg,HBG⟩:∃bg,Hid (R.begun + 1=bg):=⟨_,hide rfl⟩
 rw [HBG.out] at hlen hap ⊢
 obtain ⟨l,HLB⟩:∃l,Hid (plainB 1 bg 0=l):=⟨_,hide rfl⟩
 rw [HLB.out] at hlen hap ⊢
 obtain ⟨en,HEN⟩:∃en,Hid (endOf S.L=en):=⟨_,hide rfl⟩
 rw [HEN.out]
 have HAR:Hid (apR S.L l hold= .tuple #[.int .u64 (en:Int), .int .i64 0]):=hide (by unfold apR;rw [hap,if_pos rfl,HEN.out])
 have hbw:IntKind.u64.wrap ((R.begun:Int) + 1)=(bg:Int):=by rw [IntKind.wrap_u64];have:=HBG.out;omega
 have KZ:Hid (∀W,Ext w W→Calls Tryz.prog 59 #[.agg #[.int .u8 5, .int .u64 0, .int .u64 0, .int .i64 0, .int .i64 0, .slice none 0 0, .slice none 0 0, .int .u64 0, .slice none 0 0, .bool false]] W (fun e w' =>e= .returned (.int .i64 hold)∧Ext W w')):=hide (fun W hW=>by
  have k0:=ssizeOf_any (w:=W) _ _ _ _ _ _ _ _ _ _ (plainB 5 0 0) hlen5 (fun W2 hW2=>enc_plain (w:=W2) 5 0 0 hT ((h.ext_ hW).pool.log.ext.trans hW2) (by decide) (by decide) (by decide))
  rw [HHO.out] at k0
  exact k0)
 have KA:Hid (∀W,Ext w W→Calls Tryz.prog 58 #[.pointer (some ⟨s,0,none⟩), .agg #[.int .u8 1, .int .u64 (bg:Int), .int .u64 0, .int .i64 0, .int .i64 0, .slice none 0 0, .slice none 0 0, .int .u64 0, .slice none 0 0, .bool false], .int .i64 hold] W (SoPost w0 W Z s S.P (.tuple #[.int .u64 (en:Int), .int .i64 0]) ⟨S.D,apL S.L l hold,S.P⟩ R)):=hide (fun W hW=>by
  have k0:=sadd_any (h.ext_ hW) ok hs htl _ _ _ _ _ _ _ _ _ _ l hlen hold HHB.out (fun W2 hW2=>by
   have k1:=enc_plain (w:=W2) 1 bg 0 hT ((h.ext_ hW).pool.log.ext.trans hW2) (by have:=HBG.out;omega) (by decide) (by decide)
   rw [HLB.out] at k1
   exact k1)
  rw [HAR.out] at k0
  exact k0)
 have KR:Hid (∀k,Calls Tryz.prog 42 #[.pointer (some ⟨Z.X.q,0,none⟩)] (w.drewN k) (fun e w' =>e= .returned (.int .i64 (roomOf S.L))∧∃m,w' =(w.drewN k).drewN m)):=hide (fun k=>room_any (h.ext_ ((Ext.refl w).drewN k)).pool.log ok (by omega))
 obtain ⟨rm,HRM⟩:∃rm,Hid (roomOf S.L=rm):=⟨_,hide rfl⟩
 rw [HRM.out] at KR hroom
 obtain ⟨c2,HC2⟩:∃c2,Hid (R.count / 2=c2):=⟨_,hide rfl⟩
 have hq1:(R.count:Int) / 2=(c2:Int):=by have:=HC2.out;omega
 have hq2:(R.count:Int).tdiv 2=(c2:Int):=by rw [Int.tdiv_eq_ediv_of_nonneg (by omega)];exact hq1
 have hq3:IntKind.i64.wrap (c2:Int)=(c2:Int):=by rw [IntKind.wrap_i64];have:=HC2.out;omega
 have hq4:IntKind.i64.wrap ((c2:Int) * 480)=(c2:Int) * 480:=by rw [IntKind.wrap_i64];have:=HC2.out;omega
 have hq5:¬rm < (c2:Int) * 480:=by rw [HC2.out] at hroom;omega
 have H:=hide h
 have d1:=h.blk.cell (i:=1) rfl
 have d3:=h.blk.cell (i:=3) rfl
 have d4:=h.blk.cell (i:=4) rfl
 clear h ok hs htl hT hcn hbg hroom hlen hlen5 hap
 go_enter Tryz.func33,Tryz.ntmps33
 go_upto_region 1 with fail
 go_quiet ((go_at_call 42;exact Calls.quiet_of (KR.out _)))
 obtain ⟨wq,HWQ⟩:∃wq,Hid (w.drewN nq=wq):=⟨_,hide rfl⟩
 have HXQ:Hid (Ext w wq):=hide (by rw [← HWQ.out];exact (Ext.refl _).drewN _)
 rw [HWQ.out]
 clear d1 d3 d4
 have d4:=(H.out.ext_ HXQ.out).blk.cell (i:=4) rfl
 go_upto_region 9 with (first
  | (go_at_call 59;(with_reducible refine (KZ.out wq HXQ.out).mono ?_);rintro e w2 ⟨rfl,hx2⟩;have HX2:=hide (HXQ.out.trans hx2);clear hx2)
  | (go_at_call 58;(with_reducible refine (KA.out w2 HX2.out).mono ?_);rintro e w3 hp;obtain ⟨Z3,rfl,h3,hf3,hl3⟩:=SoPost.pre HX2.out hp;have H3:=hide h3;have HF3:=hide hf3;have HL3:=hide hl3;clear hp h3 hf3 hl3))
 have e4:=H3.out.blk.cell (i:=4) rfl
 have e5:=H3.out.blk.cell (i:=5) rfl
 have e6:=H3.out.blk.cell (i:=6) rfl
 have e7:=H3.out.blk.cell (i:=7) rfl
 have e8:=H3.out.blk.cell (i:=8) rfl
 have f4:=H3.out.blk.frozen 4
 have f5:=H3.out.blk.frozen 5
 have f6:=H3.out.blk.frozen 6
 have f7:=H3.out.blk.frozen 7
 have f8:=H3.out.blk.frozen 8
 have g4:=H3.out.put 4 (.int .u64 (bg:Int)) { R with begun:=bg } rfl
 have g5:=g4.put 5 (.bool true) { R with begun:=bg,op:=true } rfl
 have g6:=g5.put 6 (.int .u64 (bg:Int)) { R with begun:=bg,op:=true,number:=bg } rfl
 have g7:=g6.put 7 (.int .u64 (en:Int)) { R with begun:=bg,op:=true,number:=bg,first:=en } rfl
 have G8:=hide (g7.put 8 (.int .u64 (en:Int)) { R with begun:=bg,op:=true,number:=bg,first:=en,last:=en } rfl)
 clear g4 g5 g6 g7 d4
 go_wp2
 go_ret
 exact ⟨Z3,rfl,G8.out,((((HF3.out.set 4 _).set 5 _).set 6 _).set 7 _).set 8 _,HL3.out⟩
end
section
variable {w0 w w1 w2 w':World} {Z Z' Z1:Pk} {s c:Nat} {S S' S1 S2:St} {R R' R1 R2:Sr}
theorem sneeded_none (h:StoAt w0 w Z s S R) (ok:S.L.Ok S.D) (A:Option Addr) (cc:Nat):Calls Tryz.prog 71 #[.pointer (some ⟨s,0,none⟩), .slice A 0 cc] w (fun e w' =>e= .returned (.int .u64 ((if R.op=true then R.first else endOf S.L:Nat):Int))∧Ext w w'):=by
 have KE:Hid (Calls Tryz.prog 75 #[.pointer (some ⟨Z.X.q,0,none⟩)] w (fun e w' =>e= .returned (.int .u64 (endOf S.L:Int))∧Ext w w')):=hide ((end_any h.pool.log ok).mono fun _ _ hh=>⟨hh.1,by obtain ⟨m,hm⟩:=hh.2;rw [hm];exact (Ext.refl _).drewN m⟩)
 obtain ⟨en,HEN⟩:∃en,Hid (endOf S.L=en):=⟨_,hide rfl⟩
 rw [HEN.out] at KE ⊢
 have c1:=h.blk.cell (i:=1) rfl
 have H:=hide h
 obtain ⟨op,HOP⟩:∃op,Hid (R.op=op):=⟨_,hide rfl⟩
 rw [HOP.out]
 clear h ok
 cases op with
 | true=>
  rw [if_pos rfl]
  go_enter Tryz.func71,Tryz.ntmps71
  go_upto_region 5 with (go_at_call 75;(with_reducible refine KE.out.mono ?_);rintro e w2 ⟨rfl,hx2⟩;have HX2:=hide hx2;have c5:=(H.out.ext_ hx2).blk.cell (i:=5) rfl;have c7:=(H.out.ext_ hx2).blk.cell (i:=7) rfl;rw [HOP.out] at c5;clear hx2)
  refine wp_loop_rounds 1 ?_
  rw [rounds_succ]
  go_wp2
  go_ret
  exact ⟨rfl,HX2.out⟩
 | false=>
  rw [if_neg (by decide)]
  go_enter Tryz.func71,Tryz.ntmps71
  go_upto_region 5 with (go_at_call 75;(with_reducible refine KE.out.mono ?_);rintro e w2 ⟨rfl,hx2⟩;have HX2:=hide hx2;have c5:=(H.out.ext_ hx2).blk.cell (i:=5) rfl;have c7:=(H.out.ext_ hx2).blk.cell (i:=7) rfl;rw [HOP.out] at c5;clear hx2)
  refine wp_loop_rounds 1 ?_
  rw [rounds_succ]
  go_wp2
  go_ret
  exact ⟨rfl,HX2.out⟩
end
def zS5:List UInt8:=List.replicate 512 0
def nzW:Nat→Nat→Dk→Int×Dk
 | 0,_,D=>(0,D)
 | f + 1,i,D=>if wE D (i:Int) zS5≠0 then (wE D (i:Int) zS5,wD D (i:Int) zS5) else nzW f (i + 1) (wD D (i:Int) zS5)
def nzE (D:Dk) (a f:Nat):Int:=if (nzW f a D).1≠0 then (nzW f a D).1 else sE (nzW f a D).2
def nzD (D:Dk) (a f:Nat):Dk:=if (nzW f a D).1≠0 then (nzW f a D).2 else sD (nzW f a D).2
section
variable {B g gd gn c:Nat} {w w1:World} {A:Option Addr} {D:Dk}
theorem snoughts_any (h:DiskAt B w g gd gn A c D) (b:Bd D) (hB:B≤w.heap.size) (a f:Nat) (hp:D.pen.length + f < 800000) (ho:D.ops + f < 800000) (hf:a + f < 100000):
  Calls Tryz.prog 25 #[.pointer (some ⟨g,0,none⟩), .int .i64 (a:Int), .int .i64 ((a + f:Nat):Int)] w (DPost B g gd gn w A (.int .i64 (nzE D a f)) (nzD D a f)):=by
 obtain ⟨zE,HZE⟩:∃zE,Hid (nzE D a f=zE):=⟨_,hide rfl⟩
 obtain ⟨zD,HZD⟩:∃zD,Hid (nzD D a f=zD):=⟨_,hide rfl⟩
 rw [HZE.out,HZD.out]
 obtain ⟨zz,HZZ⟩:∃zz,Hid (nzW f a D=zz):=⟨_,hide rfl⟩
 have HE:Hid (zE=if zz.1≠0 then zz.1 else sE zz.2):=hide (by rw [← HZE.out,← HZZ.out];rfl)
 have HDD:Hid (zD=if zz.1≠0 then zz.2 else sD zz.2):=hide (by rw [← HZD.out,← HZZ.out];rfl)
 obtain ⟨tz,HTO⟩:∃tz:Nat,Hid (a + f=tz):=⟨_,hide rfl⟩
 rw [HTO.out]
 have HMW:Hid (∀W:World,(Instr.makeSlice 22 (.int .i64 512) (.int .i64 512)).run Tryz.prog W= .ok (.slice (some ⟨W.heap.size,0,none⟩) 512 512) (mkW 512 W)):=hide (fun W=>mkW_run 512 (by decide) W)
 have H0:Hid (DiskAt B w g gd gn A c D∧Bd D∧D.pen.length≤D.pen.length + 0∧D.ops≤D.ops + 0):=hide ⟨h,b,Nat.le_refl _,Nat.le_refl _⟩
 have HPO:Hid (D.pen.length + f < 800000∧D.ops + f < 800000∧a + f < 100000∧B≤w.heap.size):=hide ⟨hp,ho,hf,hB⟩
 obtain ⟨p0,HP0⟩:∃p0,Hid (D.pen.length=p0):=⟨_,hide rfl⟩
 obtain ⟨o0,HO0⟩:∃o0,Hid (D.ops=o0):=⟨_,hide rfl⟩
 rw [HP0.out,HO0.out] at H0 HPO
 have HN0:Hid (Newer w A A):=hide (Newer.refl w A)
 clear h b hB hp ho hf
 go_enter Tryz.func25,Tryz.ntmps25
 go_upto_region 2 with fail
 go_loopw [7] (fun iv wr=>∃(j:Nat) (A':Option Addr) (c':Nat) (D':Dk),iv= .int .i64 ((a + j:Nat):Int)∧Hid (j≤f)∧Hid (DiskAt B wr g gd gn A' c' D'∧Bd D'∧D'.pen.length≤p0 + j∧D'.ops≤o0 + j)∧Hid (Dfr g gd gn A w wr)∧Hid (Newer w A A')∧Hid (nzW (f - j) (a + j) D' =zz)) (fun iv _=>a + f + 1 - (intOf iv).toNat)
 case atStart=>exact ⟨0,A,c,D,rfl,hide (Nat.zero_le _),hide ⟨H0.out.1,H0.out.2.1,Nat.le_of_eq HP0.out,Nat.le_of_eq HO0.out⟩,hide (Dfr.refl _ _ _ _ _),HN0,HZZ⟩
 case round=>
  obtain ⟨j,A1,c1,D1,rfl,HJ,HD1,HF1,HN1,HZ1⟩:=hrel
  obtain ⟨x,HXE⟩:∃x,Hid (a + j=x):=⟨_,hide rfl⟩
  rw [HXE.out]
  have HSZ:Hid (B≤wr.heap.size):=hide (by have:=HF1.out.size;have:=HPO.out;omega)
  by_cases hj:j < f
  ·have hlt:(x:Int) < (tz:Int):=by have:=HXE.out;have:=HTO.out;omega
   have hxw:IntKind.i64.wrap ((x:Int) + 1)=((x + 1:Nat):Int):=by rw [IntKind.wrap_i64];have:=HXE.out;have:=HPO.out;have:=HJ.out;omega
   obtain ⟨x1,HX1⟩:∃x1,Hid (x + 1=x1):=⟨_,hide rfl⟩
   rw [HX1.out] at hxw
   have HJL:=hide hj
   clear hj
   have KW:Hid (Calls Tryz.prog 46 #[.pointer (some ⟨g,0,none⟩), .int .i64 (x:Int), .slice (some ⟨wr.heap.size,0,none⟩) 512 512] (mkW 512 wr) (DPost B g gd gn (mkW 512 wr) A1 (.int .i64 (wE D1 (x:Int) zS5)) (wD D1 (x:Int) zS5))):=hide (write_uni (HD1.out.1.ext (mkW_ext 512 wr)) HD1.out.2.1 (Nat.le_trans HSZ.out (mkW_ext 512 wr).size) (x:Int) zS5 512 (List.length_replicate ..) (by decide) (mkW_rd 512 wr))
   obtain ⟨e1,HE1⟩:∃e1,Hid (wE D1 (x:Int) zS5=e1):=⟨_,hide rfl⟩
   obtain ⟨D2,HD2⟩:∃D2,Hid (wD D1 (x:Int) zS5=D2):=⟨_,hide rfl⟩
   have HBD:=hide (wD_bd HD1.out.2.1 (by have:=HD1.out.2.2.1;have:=HPO.out;have:=HJ.out;omega) (by have:=HD1.out.2.2.2;have:=HPO.out;have:=HJ.out;omega) (x:Int) zS5)
   have HZ2:Hid ((if e1≠0 then (e1,D2) else nzW (f - (j + 1)) (a + (j + 1)) D2)=zz):=hide (by
    have h1:=HZ1.out
    obtain ⟨m,hm⟩:∃m,f - j=m + 1:=⟨f - j - 1,by have:=HJL.out;omega⟩
    rw [hm,HXE.out] at h1
    have h2:nzW (m + 1) x D1=if wE D1 (x:Int) zS5≠0 then (wE D1 (x:Int) zS5,wD D1 (x:Int) zS5) else nzW m (x + 1) (wD D1 (x:Int) zS5):=rfl
    rw [h2,HE1.out,HD2.out] at h1
    rw [show f - (j + 1)=m by omega,show a + (j + 1)=x + 1 by have:=HXE.out;omega]
    exact h1)
   rw [HE1.out,HD2.out] at KW
   rw [HD2.out] at HBD
   by_cases he1:e1=0
   ·subst he1
    rw [if_neg (by decide)] at HZ2
    go_wp2_with (first
     | ((with_reducible show wpList _ _ _ (⟨some 17,_,_,_,_,_⟩::_) _ _);refine wpList_gives (gives_make rfl rfl rfl (HMW.out _) ⟨rfl,rfl⟩) rfl ?_)
     | (go_at_call 46;(with_reducible refine KW.out.mono ?_);rintro e w3 ⟨A3,c3,rfl,hd3,hf3,hn3⟩;have HD3:=hide hd3;have HF3:=hide hf3;have HN3:=hide hn3;clear hd3 hf3 hn3))
    refine ⟨⟨j + 1,A3,c3,D2,by rw [← HX1.out,← HXE.out];rfl,hide (by have:=HJL.out;omega),hide ⟨HD3.out,HBD.out.1,by have:=HBD.out.2.1;have:=HD1.out.2.2.1;omega,by have:=HBD.out.2.2.1;have:=HD1.out.2.2.2;omega⟩,hide ((HF1.out.trans (Dfr.ext (mkW_ext 512 wr)) HN1.out).trans HF3.out HN1.out),hide (HN1.out.trans HN3.out (Nat.le_trans HF1.out.size (mkW_ext 512 wr).size)),HZ2⟩, ?_⟩
    show a + f + 1 - ((x1:Nat):Int).toNat < a + f + 1 - ((x:Nat):Int).toNat
    have:=HX1.out
    have:=HXE.out
    have:=HJL.out
    omega
   ·rw [if_pos he1] at HZ2
    have HZE2:Hid (zE=e1∧zD=D2):=hide (by rw [HE.out,HDD.out,← HZ2.out,if_pos he1,if_pos he1];exact ⟨rfl,rfl⟩)
    have hee:(e1 !=0)=true:=by simpa using he1
    clear he1
    go_wp2_with (first
     | ((with_reducible show wpList _ _ _ (⟨some 17,_,_,_,_,_⟩::_) _ _);refine wpList_gives (gives_make rfl rfl rfl (HMW.out _) ⟨rfl,rfl⟩) rfl ?_)
     | (go_at_call 46;(with_reducible refine KW.out.mono ?_);rintro e w3 ⟨A3,c3,rfl,hd3,hf3,hn3⟩;have HD3:=hide hd3;have HF3:=hide hf3;have HN3:=hide hn3;clear hd3 hf3 hn3))
    go_ret
    rw [HZE2.out.1,HZE2.out.2]
    exact ⟨A3,c3,rfl,HD3.out,(HF1.out.trans (Dfr.ext (mkW_ext 512 wr)) HN1.out).trans HF3.out HN1.out,HN1.out.trans HN3.out (Nat.le_trans HF1.out.size (mkW_ext 512 wr).size)⟩
  ·have hge:¬(x:Int) < (tz:Int):=by have:=HXE.out;have:=HTO.out;omega
   have HZ2:Hid (zz=(0,D1)):=hide (by
    have h1:=HZ1.out
    rw [show f - j=0 by omega] at h1
    exact h1.symm)
   have HZE2:Hid (zE=sE D1∧zD=sD D1):=hide (by rw [HE.out,HDD.out,HZ2.out];exact ⟨rfl,rfl⟩)
   have KS:=hide (sync_uni HD1.out.1 HD1.out.2.1 HSZ.out)
   rw [← HZE2.out.1,← HZE2.out.2] at KS
   clear hj
   go_wp2_with (go_at_call 47;(with_reducible refine KS.out.mono ?_);rintro e w3 ⟨A3,c3,rfl,hd3,hf3,hn3⟩;have HD3:=hide hd3;have HF3:=hide hf3;have HN3:=hide hn3;clear hd3 hf3 hn3)
   go_ret
   exact ⟨A3,c3,rfl,HD3.out,HF1.out.trans HF3.out HN1.out,HN1.out.trans HN3.out HF1.out.size⟩
/-! ### Format -/
theorem nzW_bd:∀(f i:Nat) (D:Dk),Bd D→D.pen.length + f < 900000→D.ops + f < 900000→Bd (nzW f i D).2∧(nzW f i D).2.pen.length≤D.pen.length + f∧(nzW f i D).2.ops≤D.ops + f∧(nzW f i D).2.dur.length=D.dur.length
 | 0,_,D,b,_,_=>⟨b,Nat.le_refl _,Nat.le_refl _,rfl⟩
 | f + 1,i,D,b,hp,ho=>by
  obtain ⟨b2,p2,o2,d2⟩:=wD_bd b (by omega) (by omega) (i:Int) zS5
  unfold nzW
  split
  ·exact ⟨b2,by show (wD D (i:Int) zS5).pen.length≤_;omega,by show (wD D (i:Int) zS5).ops≤_;omega,d2⟩
  ·obtain ⟨b3,p3,o3,d3⟩:=nzW_bd f (i + 1) (wD D (i:Int) zS5) b2 (by omega) (by omega)
   exact ⟨b3,by omega,by omega,by rw [d3,d2]⟩
theorem nzD_bd {D:Dk} (b:Bd D) (a f:Nat) (hp:D.pen.length + f < 800000) (ho:D.ops + f < 800000):Bd (nzD D a f)∧(nzD D a f).pen.length≤D.pen.length + f + 1∧(nzD D a f).ops≤D.ops + f + 1∧(nzD D a f).dur.length=D.dur.length:=by
 obtain ⟨b2,p2,o2,d2⟩:=nzW_bd f a D b (by omega) (by omega)
 unfold nzD
 split
 ·exact ⟨b2,by omega,by omega,d2⟩
 ·obtain ⟨b3,p3,o3,d3⟩:=sD_bd b2 (by omega)
  exact ⟨b3,by omega,by omega,by rw [d3,d2]⟩
end
def fo1 (D:Dk) (c:Nat):Dk:=nzD (nzD D 0 1) (1 + c) (D.dur.length - (1 + c))
section
variable {g gd gn cA:Nat} {w0 w w1:World} {A:Option Addr} {D:Dk}
theorem sformat_bad (h:DiskAt w0.heap.size w g gd gn A cA D) (hd:D.dur.length≤4096) (c:Int) (hf:stFitsE D c≠0):Calls Tryz.prog 7 #[.pointer (some ⟨g,0,none⟩), .int .i64 c] w (Same w (.int .i64 (stFitsE D c))):=by
 have KF:=hide (sfits_any h hd c)
 obtain ⟨e,HE⟩:∃e,Hid (stFitsE D c=e):=⟨_,hide rfl⟩
 rw [HE.out] at KF hf ⊢
 have hee:(e !=0)=true:=by simpa using hf
 clear h hd hf
 go_enter Tryz.func7,Tryz.ntmps7
 go_wp2_with (go_at_call 24;(with_reducible refine KF.out.mono ?_);rintro e2 w2 ⟨rfl,hw2⟩;subst hw2)
 go_ret
 exact ⟨rfl,rfl⟩
theorem sformat_ok (hx0:Ext w0 w) (h:DiskAt w0.heap.size w g gd gn A cA D) (b:Bd D) (hp:D.pen.length < 100000) (ho:D.ops < 100000) (hT:Tab w0) (c:Nat) (hf:stFitsE D (c:Int)=0) (hc:1 + c≤D.dur.length) (h1:nzE D 0 1=0) (h2:nzE (nzD D 0 1) (1 + c) (D.dur.length - (1 + c))=0):
  Calls Tryz.prog 7 #[.pointer (some ⟨g,0,none⟩), .int .i64 (c:Int)] w (DPost w0.heap.size g gd gn w A (.int .i64 (fmtE (fo1 D c) 0 (c:Int))) (fmtD (fo1 D c) 0 (c:Int))):=by
 have hmx:=b.ok.max
 have KF:=hide (sfits_any h hmx (c:Int))
 rw [hf] at KF
 obtain ⟨b1,p1,o1,d1⟩:=nzD_bd b 0 1 (by omega) (by omega)
 obtain ⟨b2,p2,o2,d2⟩:=nzD_bd b1 (1 + c) (D.dur.length - (1 + c)) (by omega) (by omega)
 have KN1:Hid (Calls Tryz.prog 25 #[.pointer (some ⟨g,0,none⟩), .int .i64 0, .int .i64 1] w (DPost w0.heap.size g gd gn w A (.int .i64 0) (nzD D 0 1))):=hide (by
  have k:=snoughts_any h b hx0.size 0 1 (by omega) (by omega) (by omega)
  rw [h1] at k
  exact k)
 have KN2:Hid (∀W A' c',DiskAt w0.heap.size W g gd gn A' c' (nzD D 0 1)→w0.heap.size≤W.heap.size→Calls Tryz.prog 25 #[.pointer (some ⟨g,0,none⟩), .int .i64 ((1 + c:Nat):Int), .int .i64 (D.dur.length:Int)] W (DPost w0.heap.size g gd gn W A' (.int .i64 0) (fo1 D c))):=hide (fun W A' c' hW hB=>by
  have k:=snoughts_any hW b1 hB (1 + c) (D.dur.length - (1 + c)) (by omega) (by omega) (by omega)
  rw [h2,show 1 + c + (D.dur.length - (1 + c))=D.dur.length by omega] at k
  exact k)
 have KL:Hid (∀W A' c',DiskAt w0.heap.size W g gd gn A' c' (nzD D 0 1)→Calls Tryz.prog 27 #[.pointer (some ⟨g,0,none⟩)] W (Same W (.int .i64 (D.dur.length:Int)))):=hide (fun W A' c' hW=>by
  have k:=len_any hW
  rw [d1] at k
  exact k)
 have KP:Hid (∀W,Calls Tryz.prog 26 #[.int .i64 (c:Int)] W (Same W (.int .i64 ((1 + c:Nat):Int)))):=hide (fun W=>spagesAt_any c (by omega) W)
 have KFM:Hid (∀W A' c',Ext w0 W→DiskAt w0.heap.size W g gd gn A' c' (fo1 D c)→Calls Tryz.prog 28 #[.pointer (some ⟨g,0,none⟩), .int .i64 0, .int .i64 (c:Int)] W (DPost w0.heap.size g gd gn W A' (.int .i64 (fmtE (fo1 D c) 0 (c:Int))) (fmtD (fo1 D c) 0 (c:Int)))):=hide (fun W A' c' hxW hW=>format_any hxW hW b2 (by show (nzD (nzD D 0 1) (1 + c) (D.dur.length - (1 + c))).pen.length < _;omega) (by show (nzD (nzD D 0 1) (1 + c) (D.dur.length - (1 + c))).ops < _;omega) hT 0 (c:Int) (by decide) (by omega))
 have HX0:=hide hx0
 have HD0:=hide h
 obtain ⟨fe,HFE⟩:∃fe,Hid (fmtE (fo1 D c) 0 (c:Int)=fe):=⟨_,hide rfl⟩
 obtain ⟨p1x,HP1⟩:∃p1x,Hid (1 + c=p1x):=⟨_,hide rfl⟩
 obtain ⟨dl,HDL⟩:∃dl,Hid (D.dur.length=dl):=⟨_,hide rfl⟩
 rw [HP1.out] at KP KN2
 rw [HDL.out] at KL KN2
 rw [HFE.out] at KFM ⊢
 clear h b hp ho hT hf hc h1 h2 b1 p1 o1 d1 b2 p2 o2 d2 hmx hx0
 go_enter Tryz.func7,Tryz.ntmps7
 go_wp2_with (first
  | (go_at_call 24;(with_reducible refine KF.out.mono ?_);rintro e2 w2 ⟨rfl,hw2⟩;subst hw2)
  | (go_at_call 25;(with_reducible refine KN1.out.mono ?_);rintro e2 w3 ⟨A3,c3,rfl,hd3,hf3,hn3⟩;have HD3:=hide hd3;have HF3:=hide hf3;have HN3:=hide hn3;have HX3:Hid (Ext w0 w3):=hide (Dfr.grown HX0.out HD0.out hf3);clear hd3 hf3 hn3)
  | (go_at_call 26;(with_reducible refine (KP.out _).mono ?_);rintro e2 w4 ⟨rfl,hw4⟩;subst hw4)
  | (go_at_call 27;(with_reducible refine (KL.out _ A3 c3 HD3.out).mono ?_);rintro e2 w5 ⟨rfl,hw5⟩;subst hw5)
  | (go_at_call 25;(with_reducible refine (KN2.out w3 A3 c3 HD3.out HX3.out.size).mono ?_);rintro e2 w6 ⟨A6,c6,rfl,hd6,hf6,hn6⟩;have HD6:=hide hd6;have HF6:=hide hf6;have HN6:=hide hn6;have HX6:Hid (Ext w0 w6):=hide (Dfr.grown HX3.out HD3.out hf6);clear hd6 hf6 hn6)
  | (go_at_call 28;(with_reducible refine (KFM.out w6 A6 c6 HX6.out HD6.out).mono ?_);rintro e2 w7 ⟨A7,c7,rfl,hd7,hf7,hn7⟩;have HD7:=hide hd7;have HF7:=hide hf7;have HN7:=hide hn7;clear hd7 hf7 hn7))
 go_ret
 exact ⟨A7,c7,rfl,HD7.out,(HF3.out.trans HF6.out HN3.out).trans HF7.out (HN3.out.trans HN6.out HF3.out.size),(HN3.out.trans HN6.out HF3.out.size).trans HN7.out (Nat.le_trans HF3.out.size HF6.out.size)⟩
end
structure Dif (a b:List UInt8) (n f t:Nat):Prop where
 le:f≤t∧t≤n
 pre:∀j,j < f→a[j]? =b[j]?
 post:∀j,t≤j→j < n→a[j]? =b[j]?
section
variable {w:World}
theorem rd_byte {w:World} {A:Option Addr} {l:List UInt8} (hr:Rd w A l) (hn:l≠ []):∃b o,A=some ⟨b,o,none⟩∧∀W,Ext w W→∀(j:Nat) (u:UInt8),l[j]? =some u→W.cell? ⟨b,o + j,none⟩=some (.int .u8 (u.toNat:Int)):=by
 obtain ⟨b,o,rfl,hc⟩:=hr hn
 exact ⟨b,o,rfl,fun W hW j u hj=>(World.cell?_of_block (Below.block hW b (World.block_lt_of_cell? w _ (hc j u hj)))).trans (hc j u hj)⟩
theorem sdiff_any (A B:Option Addr) (ca cb n:Nat) (a b:List UInt8) (hA:Rd w A a) (hB:Rd w B b) (ha:a.length=n) (hb:b.length=n) (hn:0 < n∧n < 100000) (hca:n≤ca) (hcb:n≤cb):
  Calls Tryz.prog 62 #[.slice A n ca, .slice B n cb] w (fun e w' =>∃f t,e= .returned (.tuple #[.int .i64 ((f:Nat):Int), .int .i64 ((t:Nat):Int)])∧Ext w w'∧Dif a b n f t):=by
 obtain ⟨ba,oa,rfl,hcA⟩:=rd_byte hA (by intro e;rw [e] at ha;simp at ha;omega)
 obtain ⟨bb,ob,rfl,hcB⟩:=rd_byte hB (by intro e;rw [e] at hb;simp at hb;omega)
 have HCA:=hide hcA
 have HCB:=hide hcB
 have HLA:=hide ha
 have HLB:=hide hb
 have HN:=hide hn
 clear hcA hcB ha hb hn hA hB
 go_enter Tryz.func62,Tryz.ntmps62
 go_upto_region 2 with fail
 go_loopw [6] (fun fv wr=>∃k:Nat,fv= .int .i64 (k:Int)∧Hid (k≤n)∧Hid (∀j,j < k→a[j]? =b[j]?)∧Hid (Ext w wr)) (fun fv _=>n + 1 - (intOf fv).toNat)
 case atStart=>exact ⟨0,rfl,hide (Nat.zero_le _),hide (fun j h=>absurd h (Nat.not_lt_zero _)),hide (Ext.refl _)⟩
 case round=>
  obtain ⟨k,rfl,HK,HE,HX⟩:=hrel
  by_cases hk:k < n
  ·have hki:(k:Int) < (n:Int):=by omega
   obtain ⟨x,hx⟩:∃x,a[k]? =some x:=⟨_,List.getElem?_eq_getElem (by rw [HLA.out];exact hk)⟩
   obtain ⟨y,hy⟩:∃y,b[k]? =some y:=⟨_,List.getElem?_eq_getElem (by rw [HLB.out];exact hk)⟩
   have HXY:=hide (And.intro hx hy)
   have c1:=HCA.out wr HX.out k x hx
   have c2:=HCB.out wr HX.out k y hy
   have hkw:IntKind.i64.wrap ((k:Int) + 1)=((k + 1:Nat):Int):=by rw [IntKind.wrap_i64];have:=HN.out;omega
   obtain ⟨k1,HK1⟩:∃k1,Hid (k + 1=k1):=⟨_,hide rfl⟩
   rw [HK1.out] at hkw
   have HKN:=hide hk
   clear hk hx hy
   by_cases hxy:x=y
   ·have hee:((x.toNat:Int)==(y.toNat:Int))=true:=by simp [hxy]
    have HEQ:=hide hxy
    clear hxy
    go_upto_region 2 with fail
    go_quiet (fail)
    obtain ⟨wz,hwz⟩:∃wz,wr.drewN nq=wz:=⟨_,rfl⟩
    have HXZ:Hid (Ext w wz):=hide (by rw [← hwz];exact HX.out.drewN _)
    rw [hwz]
    clear hwz c1 c2
    go_wp2
    refine ⟨⟨k1,rfl,hide (by have:=HK1.out;have:=HKN.out;omega),hide (fun j hj=> ?_),HXZ⟩, ?_⟩
    ·rcases Nat.lt_or_ge j k with h5 | h5
     ·exact HE.out j h5
     ·obtain rfl:j=k:=by have:=HK1.out;omega
      rw [HXY.out.1,HXY.out.2,HEQ.out]
    ·show n + 1 - ((k1:Nat):Int).toNat < n + 1 - ((k:Nat):Int).toNat
     have:=HK1.out
     have:=HKN.out
     omega
   ·have hee:((x.toNat:Int)==(y.toNat:Int))=false:=by
     simp
     intro h
     exact hxy (UInt8.toNat_inj.1 (by omega))
    clear hxy
    go_upto_region 2 with fail
    go_quiet (fail)
    obtain ⟨wz,hwz⟩:∃wz,wr.drewN nq=wz:=⟨_,rfl⟩
    have HXZ:Hid (Ext w wz):=hide (by rw [← hwz];exact HX.out.drewN _)
    rw [hwz]
    clear hwz c1 c2 hee hkw HXY HK1
    go_wp2
    go_loopw [7] (fun tv wr2=>∃t:Nat,tv= .int .i64 (t:Int)∧Hid (k≤t∧t≤n)∧Hid (∀j,t≤j→j < n→a[j]? =b[j]?)∧Hid (Ext w wr2)) (fun tv _=>(intOf tv).toNat)
    case atStart=>exact ⟨n,rfl,hide ⟨HK.out,Nat.le_refl _⟩,hide (fun j h1 h2=>by omega),HXZ⟩
    case round=>
     obtain ⟨t,rfl,HTB,HPT,HX2⟩:=hrel
     by_cases htk:k < t
     ·have hti:(k:Int) < (t:Int):=by omega
      obtain ⟨t1,HT1⟩:∃t1,Hid (t - 1=t1):=⟨_,hide rfl⟩
      have htw:IntKind.i64.wrap ((t:Int) - 1)=(t1:Int):=by rw [IntKind.wrap_i64];have:=HN.out;have:=HTB.out;have:=HT1.out;omega
      have htw2:IntKind.i64.wrap (t1:Int)=(t1:Int):=by rw [IntKind.wrap_i64];have:=HN.out;have:=HTB.out;have:=HT1.out;omega
      have hte:(t:Int) - 1=(t1:Int):=by have:=HT1.out;omega
      have HT1N:Hid (t1 < n∧k≤t1∧t1 + 1=t):=hide (by have:=HTB.out;have:=HT1.out;omega)
      obtain ⟨x2,hx2⟩:∃x2,a[t1]? =some x2:=⟨_,List.getElem?_eq_getElem (by rw [HLA.out];exact HT1N.out.1)⟩
      obtain ⟨y2,hy2⟩:∃y2,b[t1]? =some y2:=⟨_,List.getElem?_eq_getElem (by rw [HLB.out];exact HT1N.out.1)⟩
      have HXY2:=hide (And.intro hx2 hy2)
      have c1:=HCA.out _ HX2.out t1 x2 hx2
      have c2:=HCB.out _ HX2.out t1 y2 hy2
      have ht1n:(t1:Int) < (n:Int):=by have:=HT1N.out;omega
      clear htk hx2 hy2
      by_cases hxy:x2=y2
      ·have hee:((x2.toNat:Int)==(y2.toNat:Int))=true:=by simp [hxy]
       have HEQ:=hide hxy
       clear hxy
       go_upto_region 4 with fail
       go_quiet (fail)
       obtain ⟨wy,hwy⟩:∃wy,wr.drewN nq=wy:=⟨_,rfl⟩
       have HXY:=hide (show Ext w wy by rw [← hwy];exact HX2.out.drewN _)
       rw [hwy]
       clear hwy c1 c2
       go_wp2
       refine ⟨⟨t1,rfl,hide (by have:=HT1N.out;omega),hide (fun j h1 h2=> ?_),HXY⟩, ?_⟩
       ·rcases Nat.lt_or_ge t1 j with h5 | h5
        ·exact HPT.out j (by have:=HT1N.out;omega) h2
        ·obtain rfl:j=t1:=by omega
         rw [HXY2.out.1,HXY2.out.2,HEQ.out]
       ·show ((t1:Nat):Int).toNat < ((t:Nat):Int).toNat
        have:=HT1N.out
        omega
      ·have hee:((x2.toNat:Int)==(y2.toNat:Int))=false:=by
        simp
        intro h
        exact hxy (UInt8.toNat_inj.1 (by omega))
       clear hxy
       go_upto_region 4 with fail
       go_quiet (fail)
       obtain ⟨wy,hwy⟩:∃wy,wr.drewN nq=wy:=⟨_,rfl⟩
       have HXY:=hide (show Ext w wy by rw [← hwy];exact HX2.out.drewN _)
       rw [hwy]
       clear hwy c1 c2
       go_wp2
       go_ret2
       exact ⟨k,t,rfl,HXY.out,⟨HTB.out,HE.out,HPT.out⟩⟩
     ·have hti:¬(k:Int) < (t:Int):=by omega
      go_upto_region 4 with fail
      go_quiet (fail)
      obtain ⟨wy,hwy⟩:∃wy,wr.drewN nq=wy:=⟨_,rfl⟩
      have HXY:=hide (show Ext w wy by rw [← hwy];exact HX2.out.drewN _)
      rw [hwy]
      clear hwy
      go_wp2
      go_ret2
      exact ⟨k,t,rfl,HXY.out,⟨HTB.out,HE.out,HPT.out⟩⟩
  ·have hki:¬(k:Int) < (n:Int):=by omega
   clear hk
   go_upto_region 2 with fail
   go_quiet (fail)
   obtain ⟨wz,hwz⟩:∃wz,wr.drewN nq=wz:=⟨_,rfl⟩
   have HXZ:Hid (Ext w wz):=hide (by rw [← hwz];exact HX.out.drewN _)
   rw [hwz]
   clear hwz
   go_wp2
   go_loopw [7] (fun tv wr2=>∃t:Nat,tv= .int .i64 (t:Int)∧Hid (k≤t∧t≤n)∧Hid (∀j,t≤j→j < n→a[j]? =b[j]?)∧Hid (Ext w wr2)) (fun tv _=>(intOf tv).toNat)
   case atStart=>exact ⟨n,rfl,hide ⟨HK.out,Nat.le_refl _⟩,hide (fun j h1 h2=>by omega),HXZ⟩
   case round=>
    obtain ⟨t,rfl,HTB,HPT,HX2⟩:=hrel
    by_cases htk:k < t
    ·have hti:(k:Int) < (t:Int):=by omega
     obtain ⟨t1,HT1⟩:∃t1,Hid (t - 1=t1):=⟨_,hide rfl⟩
     have htw:IntKind.i64.wrap ((t:Int) - 1)=(t1:Int):=by rw [IntKind.wrap_i64];have:=HN.out;have:=HTB.out;have:=HT1.out;omega
     have htw2:IntKind.i64.wrap (t1:Int)=(t1:Int):=by rw [IntKind.wrap_i64];have:=HN.out;have:=HTB.out;have:=HT1.out;omega
     have hte:(t:Int) - 1=(t1:Int):=by have:=HT1.out;omega
     have HT1N:Hid (t1 < n∧k≤t1∧t1 + 1=t):=hide (by have:=HTB.out;have:=HT1.out;omega)
     obtain ⟨x2,hx2⟩:∃x2,a[t1]? =some x2:=⟨_,List.getElem?_eq_getElem (by rw [HLA.out];exact HT1N.out.1)⟩
     obtain ⟨y2,hy2⟩:∃y2,b[t1]? =some y2:=⟨_,List.getElem?_eq_getElem (by rw [HLB.out];exact HT1N.out.1)⟩
     have HXY2:=hide (And.intro hx2 hy2)
     have c1:=HCA.out _ HX2.out t1 x2 hx2
     have c2:=HCB.out _ HX2.out t1 y2 hy2
     have ht1n:(t1:Int) < (n:Int):=by have:=HT1N.out;omega
     clear htk hx2 hy2
     by_cases hxy:x2=y2
     ·have hee:((x2.toNat:Int)==(y2.toNat:Int))=true:=by simp [hxy]
      have HEQ:=hide hxy
      clear hxy
      go_upto_region 4 with fail
      go_quiet (fail)
      obtain ⟨wy,hwy⟩:∃wy,wr.drewN nq=wy:=⟨_,rfl⟩
      have HXY:=hide (show Ext w wy by rw [← hwy];exact HX2.out.drewN _)
      rw [hwy]
      clear hwy c1 c2
      go_wp2
      refine ⟨⟨t1,rfl,hide (by have:=HT1N.out;omega),hide (fun j h1 h2=> ?_),HXY⟩, ?_⟩
      ·rcases Nat.lt_or_ge t1 j with h5 | h5
       ·exact HPT.out j (by have:=HT1N.out;omega) h2
       ·obtain rfl:j=t1:=by omega
        rw [HXY2.out.1,HXY2.out.2,HEQ.out]
      ·show ((t1:Nat):Int).toNat < ((t:Nat):Int).toNat
       have:=HT1N.out
       omega
     ·have hee:((x2.toNat:Int)==(y2.toNat:Int))=false:=by
       simp
       intro h
       exact hxy (UInt8.toNat_inj.1 (by omega))
      clear hxy
      go_upto_region 4 with fail
      go_quiet (fail)
      obtain ⟨wy,hwy⟩:∃wy,wr.drewN nq=wy:=⟨_,rfl⟩
      have HXY:=hide (show Ext w wy by rw [← hwy];exact HX2.out.drewN _)
      rw [hwy]
      clear hwy c1 c2
      go_wp2
      go_ret2
      exact ⟨k,t,rfl,HXY.out,⟨HTB.out,HE.out,HPT.out⟩⟩
    ·have hti:¬(k:Int) < (t:Int):=by omega
     go_upto_region 4 with fail
     go_quiet (fail)
     obtain ⟨wy,hwy⟩:∃wy,wr.drewN nq=wy:=⟨_,rfl⟩
     have HXY:=hide (show Ext w wy by rw [← hwy];exact HX2.out.drewN _)
     rw [hwy]
     clear hwy
     go_wp2
     go_ret2
     exact ⟨k,t,rfl,HXY.out,⟨HTB.out,HE.out,HPT.out⟩⟩
end
def dV (l:List (Nat×Nat)):List Value:=(l.map fun r=> [Value.int .i64 (r.1:Int), .int .u64 (r.2:Int)]).flatten
theorem dV_app (l m:List (Nat×Nat)):dV (l ++ m)=dV l ++ dV m:=by simp [dV]
theorem dV_get (l:List (Nat×Nat)) (j:Nat) (r:Nat×Nat) (h:l[j]? =some r):(dV l)[j * 2]? =some (.int .i64 (r.1:Int))∧(dV l)[j * 2 + 1]? =some (.int .u64 (r.2:Int)):=by
 have hl:∀s∈l.map (fun r:Nat×Nat=> [Value.int .i64 (r.1:Int), .int .u64 (r.2:Int)]),s.length=2:=fun s hs=>by
  obtain ⟨r,-,rfl⟩:=List.mem_map.1 hs
  rfl
 have hi:(l.map (fun r:Nat×Nat=> [Value.int .i64 (r.1:Int), .int .u64 (r.2:Int)]))[j]? =some [Value.int .i64 (r.1:Int), .int .u64 (r.2:Int)]:=by rw [List.getElem?_map,h];rfl
 exact ⟨flat_get hl hi (j:=0) (by decide),flat_get hl hi (j:=1) (by decide)⟩
def OwnD (w:World) (B:Nat) (v:Value) (l:List (Nat×Nat)):Prop:=w.ownsRow B 136 2 v l.length (dV l)
def DRow (w:World) (A:Option Addr) (l:List (Nat×Nat)):Prop:=l≠ []→∃g,A=some ⟨g,0,none⟩∧∀(j:Nat) (r:Nat×Nat),l[j]? =some r→w.cell? ⟨g,j * 2,none⟩=some (.int .i64 (r.1:Int))∧w.cell? ⟨g,j * 2 + 1,none⟩=some (.int .u64 (r.2:Int))
theorem info_dirty:(Tryz.prog.info? 136).map (fun i=>(i.zero,i.size,i.bytes))=some (some (.agg #[.int .i64 0, .int .u64 0]),2,16):=by kernel_rfl
theorem info_partsD:∃i0,Tryz.prog.info? 136=some i0∧i0.zero=some (.agg #[.int .i64 0, .int .u64 0])∧i0.size=2∧i0.bytes=16:=by
 have h:=info_dirty
 cases hq:Tryz.prog.info? 136 with
 | none=>rw [hq] at h;cases h
 | some i=>
  rw [hq] at h
  simp only [Option.map_some,Option.some.injEq,Prod.mk.injEq] at h
  exact ⟨i,rfl,h.1,h.2.1,h.2.2⟩
section
variable {ops:Array Oper} {rest:List Oper} {o:Oper} {a:Act} {Q:Exit→Act→World→Prop}
theorem wpList_pushD {w0:World} (hgd:o.guard=none) (s x:Operand) (ho:o.op= .call { callee:= .builtin .append,args:= #[s,x],argTypes:= #[93,93] })
  (base:Nat) (v:Value) (L:List (Nat×Nat)) (i t:Nat) (hs:a.eval s=v) (hx:a.eval x= .slice (some ⟨w0.heap.size,0,none⟩) 1 1) (hown:OwnD w0 base v L) (hbase:base≤w0.heap.size) (hlen:L.length < 1000000)
  (h:∀v' w',OwnD w' base v' (L ++ [(i,t)])→w0.grownBy w' v.ownBlock→wpList Tryz.prog ops Q rest (a.put o.dst v') w'):wpList Tryz.prog ops Q (o::rest) a (w0.alloc (.cells #[.int .i64 (i:Int), .int .u64 (t:Int)] 136)):=by
 obtain ⟨i0,hi,hz,hsz,hby⟩:=info_partsD
 have R:=Rw.new w0 136 [.int .i64 (i:Int), .int .u64 (t:Int)]
 have hX:=Ext.alloc w0 (.cells #[.int .i64 (i:Int), .int .u64 (t:Int)] 136)
 have hown':(w0.alloc (.cells #[.int .i64 (i:Int), .int .u64 (t:Int)] 136)).ownsRow base 136 2 v L.length (dV L):=World.ownsRow.alloc hown _
 have hone:∀u∈ [Value.int .i64 (i:Int), .int .u64 (t:Int)],u.oneCell' =true:=by
  intro u hu
  simp only [List.mem_cons,List.not_mem_nil,or_false] at hu
  rcases hu with rfl | rfl <;> rfl
 refine wpList_append_own _ hgd s x 93 ho base 136 i0 _ 2 16 Tryz.underlying93 hi hz hsz hby rfl (by decide) v L.length (dV L) hs hown' ⟨w0.heap.size,0,none⟩ 1 1 [.int .i64 (i:Int), .int .u64 (t:Int)] hx rfl (fun j u hu=>by rw [add_flat,Nat.zero_add];exact R.cell hu) hone (by unfold maxLen;omega) (by omega) (Nat.le_trans hbase hX.size) ?_
 intro v' w' h2 h3 _
 refine h v' w' ?_ ⟨h3.os.trans hX.os,h3.tape.trans hX.tape,h3.output.trans hX.output,Nat.le_trans hX.size h3.size,fun k hk hne=>(h3.block k (Nat.lt_of_lt_of_le hk hX.size) hne).trans (hX.block k hk)⟩
 unfold OwnD
 rw [dV_app,List.length_append]
 exact h2
end
theorem OwnD.extE {w w':World} {B:Nat} {v:Value} {l:List (Nat×Nat)} (h:OwnD w B v l) (hx:Ext w w'):OwnD w' B v l:=by
 refine ⟨h.1, ?_⟩
 rcases h.2 with hn | ⟨g,cap,cur,rfl,hb,hg,rest⟩
 ·exact .inl hn
 ·refine .inr ⟨g,cap,cur,rfl,hb, ?_,rest⟩
  rw [Below.block hx g (Array.getElem?_eq_some_iff.1 hg).1]
  exact hg
theorem rise_of {zs:List (Nat×Nat)} (h:zs.Pairwise (fun a b=>a.1≤b.1)) (hn:(zs.map Prod.fst).Nodup):zs.Pairwise (fun a b=>a.1 < b.1):=by
 have h2:zs.Pairwise (fun a b=>a.1≠b.1):=List.pairwise_map.1 hn
 exact (h.and h2).imp fun h=>by omega
theorem Pk.Later.refl' {Z:Pk} {P P':Pl} {w:World} (h:P'.H=P.H):Z.Later P' Z P w:=⟨rfl,rfl,rfl,Bk.Later.refl _ _,fun k hk=> .inl (by
 rcases hk with hk | hk | hk | hk | ⟨i,f,hf,hk⟩
 ·exact .inl hk
 ·exact .inr (.inl hk)
 ·exact .inr (.inr (.inl hk))
 ·exact .inr (.inr (.inr (.inl hk)))
 ·exact .inr (.inr (.inr (.inr ⟨i,f,by rw [← h];exact hf,hk⟩))))⟩
structure DiL (P:Pl) (zs:List (Nat×Nat)):Prop where
 rise:zs.Pairwise (fun a b=>a.1 < b.1)
 mem:∀i s,(i,s)∈zs↔P.W i=some s∨(P.W i=none∧∃f,P.H i=some f∧f.ch=true∧f.since=s)
def SortD (w:World) (v:Value) (zs:List (Nat×Nat)) (e:Ending) (w':World):Prop:=
 e= .returned (.tuple #[])∧w.grownBy w' v.ownBlock∧∃A cc zs',v= .slice A zs'.length cc∧zs'.Perm zs∧zs'.Pairwise (fun a b=>a.1≤b.1)∧DRow w' A zs'∧∀a,A=some a→v.ownBlock=some a.block
structure Di1 (P:Pl) (left:Lit→Bool) (cnt C:Nat) (zs:List (Nat×Nat)):Prop where
 nodup:(zs.map Prod.fst).Nodup
 mem:∀i s,(i,s)∈zs↔P.W i=some s∧left (ik i)=false
 cnt:zs.length + cnt≤C
structure Di2 (P:Pl) (left:Lit→Bool) (cnt C:Nat) (zs:List (Nat×Nat)):Prop where
 nodup:(zs.map Prod.fst).Nodup
 mem:∀i s,(i,s)∈zs↔P.W i=some s∨(P.W i=none∧(∃f,P.H i=some f∧f.ch=true∧f.since=s)∧left (ik i)=false)
 cnt:zs.length + cnt≤C
theorem left_step (left:Lit→Bool) (i:Nat) (kl:Lit):(left kl && !kl.sameKey (ik i))=false↔left kl=false∨kl=ik i:=by
 cases hl:left kl with
 | false=>simp
 | true=>
  simp only [Bool.true_and,Bool.not_eq_false']
  constructor
  ·intro h;exact .inr (WideAt.sameKey_eq h)
  ·intro h
   rcases h with h | h
   ·cases h
   ·subst h;exact sameKey_ik.2 rfl
theorem way_val (P:Pl):∀i d v y,wayM P i=some d→u64R v=some y→y.1=d→v= .int .u64 (((P.W i).getD 0:Nat):Int):=fun i d v y hm hv hy=>by
 unfold wayM at hm
 cases hW:P.W i with
 | none=>rw [hW] at hm;cases hm
 | some s=>
  rw [hW] at hm
  have hm:DataW.lit (.int .u64 (s:Int))=d:=Option.some.inj hm
  unfold u64R at hv
  split at hv
  ·injection hv with hv
   rw [← hv,← hm] at hy
   have hy:(DataW.lit (.int .u64 _):DataW Unit)= .lit (.int .u64 (s:Int)):=hy
   injection hy with hy
   injection hy with _ hy
   rw [hy]
   rfl
  ·cases hv
section
variable {w0 w:World} {Z:Pk} {D:Dk} {L:Lg} {P:Pl}
def DiP (w0 w:World) (Z:Pk) (D:Dk) (L:Lg) (P:Pl) (e:Ending) (w':World):Prop:=∃A cc zs,e= .returned (.slice A zs.length cc)∧DiL (settleP L P) zs∧PlAt w0 w' Z D L (settleP L P)∧Pfr Z P w w'∧DRow w' A zs
theorem dirty_any {nd:Nat} (h:PlAt w0 w Z D L P) (ok:P.Ok nd) (hm:P.m < 100000) (hsort:∀W B v zs,OwnD W B v zs→zs.length < 1000000→Calls Tryz.prog 130 #[v, .func (.func 131) #[] #[]] W (SortD W v zs)):
  Calls Tryz.prog 106 #[.pointer (some ⟨Z.q,0,none⟩)] w (DiP w0 w Z D L P):=by
 have KSE:=hide (psettle_any h)
 obtain ⟨P4,HP4⟩:∃P4,Hid (settleP L P=P4):=⟨_,hide rfl⟩
 have HIS:Hid (P4.H=P.H∧P4.n=P.n∧P4.m≤P.m):=hide (by
  rw [← HP4.out]
  unfold settleP
  split
  ·exact ⟨rfl,rfl,Nat.zero_le _⟩
  ·exact ⟨rfl,rfl,Nat.le_refl _⟩)
 have HNB:Hid (P.n < 100000∧P.m < 100000):=hide ⟨by have:=ok.cnt;have:=ok.frames;omega,hm⟩
 have OKF:Hid (∀i f,P4.H i=some f→f.by_.length=504):=hide (fun i f hf=>by rw [HIS.out.1] at hf;exact (ok.page i f hf).2.by_)
 rw [HP4.out] at KSE
 unfold DiP
 rw [HP4.out]
 have HSRT:=hide hsort
 have HPL:=hide h
 clear h ok hm hsort
 go_enter Tryz.func106,Tryz.ntmps106
 go_upto_region 5 with (go_at_call 74;(with_reducible refine KSE.out.mono ?_);rintro e w2 ⟨rfl,hp2,hf2⟩;have HP2:=hide hp2;have HF2:=hide hf2;clear hp2 hf2)
 obtain ⟨Dw,hownw,hreadw⟩:=HP2.out.way
 have HRW:=hide hreadw
 have c6:=HP2.out.blk.cell (i:=6) rfl
 obtain ⟨r,HR⟩:∃r,Hid (w2.heap.size=r):=⟨_,hide rfl⟩
 obtain ⟨ob,HOB⟩:∃ob,Hid (Z.ob=ob):=⟨_,hide rfl⟩
 have HOR:Hid (ob < r):=hide (by rw [← HOB.out,← HR.out];exact HP2.out.way.lt)
 obtain ⟨C,HC⟩:∃C,Hid (Maps.size Dw=C):=⟨_,hide rfl⟩
 have HC5:Hid (C=P4.m):=hide (by rw [← HC.out,hreadw.size])
 rw [HOB.out] at hownw c6
 clear hreadw
 go_wp2_with (at_range;refine wpList_range_own _ rfl _ 86 rfl 3 34 intK Tryz.underlying86 u64R ob P4.m Dw rfl hownw ?_;intro w3 hrg1 hg1 hs1;have HRG1:=hide hrg1;have HX1:=hide (Ext.of_grown hg1);have HS1:=hide hs1;clear hrg1 hg1 hs1)
 go_frame
 rw [HR.out] at HRG1 HS1 ⊢
 clear c6 hownw
 go_loopw [3] (fun v wr=>∃(zs:List (Nat×Nat)) (left:Lit→Bool) (cnt:Nat),Hid (OwnD wr (r + 1) v zs)∧Hid (wr.ranges Tryz.prog 3 u64R ob r P4.m Dw left cnt)∧Hid (Ext w2 wr)∧Hid (Di1 P4 left cnt C zs)) (fun _ wr=>wr.rangeLeft ob r)
 case atStart=>
  refine ⟨[],_,_,hide (World.ownsRow_nil _ _ _ _),HRG1,HX1,hide ⟨by simp,fun i s=>⟨fun h=>absurd h List.not_mem_nil,fun ⟨h,hl⟩=> ?_⟩,by rw [HC.out];exact Nat.le_of_eq (Nat.zero_add _)⟩⟩
  have h1:=HRW.out.has i
  rw [hl] at h1
  have h2:(wayM P4 i).isSome=true:=by unfold wayM;rw [h];rfl
  rw [h2] at h1
  cases h1
 case round=>
  obtain ⟨zs,left,cnt,HO,HRG,HX,HI⟩:=hrel
  have HSZ:Hid (r + 1≤wr.heap.size):=hide HRG.out.lt
  have HZL:Hid (zs.length≤P4.m):=hide (by have:=HI.out.cnt;have:=HC5.out;omega)
  go_wp2_with (first
   | (at_next;refine wpList_next_map _ rfl (.tmp 18) rfl u64R ob r P4.m Dw (wayM P4) P4.m HRW.out (fun i=> .int .u64 (((P4.W i).getD 0:Nat):Int)) (way_val P4) left cnt rfl HRG.out ?_ ?_)
   | go_in)
  ·intro _ hl0
   have HALL:Hid (∀i s,(i,s)∈zs↔P4.W i=some s):=hide (fun i s=>⟨fun h=>((HI.out.mem i s).1 h).1,fun h=>(HI.out.mem i s).2 ⟨h,hl0 _⟩⟩)
   clear hl0
   have HP3:=hide (HP2.out.ext_ HX.out)
   obtain ⟨Dh,hownh,hreadh⟩:=HP3.out.held
   have HRH:=hide hreadh
   have c5:=HP3.out.blk.cell (i:=5) rfl
   obtain ⟨r2,HR2⟩:∃r2,Hid (wr.heap.size=r2):=⟨_,hide rfl⟩
   have HR2L:Hid (r + 1≤r2):=hide (by rw [← HR2.out];exact HSZ.out)
   obtain ⟨hb,HHB⟩:∃hb,Hid (Z.hb=hb):=⟨_,hide rfl⟩
   have HHR:Hid (hb < r2):=hide (by rw [← HHB.out,← HR2.out];exact HP3.out.held.lt)
   obtain ⟨C2,HC2⟩:∃C2,Hid (Maps.size Dh=C2):=⟨_,hide rfl⟩
   have HC6:Hid (C2=P4.n):=hide (by rw [← HC2.out,hreadh.size])
   rw [HHB.out] at hownh c5
   clear hreadh
   go_wp2_with (at_range;refine wpList_range_own _ rfl _ 85 rfl 3 97 intK Tryz.underlying85 ptrR hb P4.n Dh rfl hownh ?_;intro w5 hrg5 hg5 hs5;have HRG5:=hide hrg5;have HX5:=hide (Ext.of_grown hg5);have HS5:=hide hs5;clear hrg5 hg5 hs5)
   go_frame
   rw [HR2.out] at HRG5 HS5 ⊢
   clear c5 hownh
   go_loopw [3] (fun v wr2=>∃(zs2:List (Nat×Nat)) (left2:Lit→Bool) (cnt2:Nat),Hid (OwnD wr2 (r + 1) v zs2)∧Hid (v.ownBlock≠some r2)∧Hid (wr2.ranges Tryz.prog 3 ptrR hb r2 P4.n Dh left2 cnt2)∧Hid (Ext w2 wr2)∧Hid (Di2 P4 left2 cnt2 (C + C2) zs2)) (fun _ wr2=>wr2.rangeLeft hb r2)
   case atStart=>
    refine ⟨zs,_,_,hide (OwnD.extE HO.out HX5.out),hide (fun e=>by have:=(World.ownsRow.lt HO.out _ e).2;have:=HR2.out;omega),HRG5,hide (HX.out.trans HX5.out),hide ⟨HI.out.nodup,fun i s=> ?_, ?_⟩⟩
    ·rw [HALL.out]
     constructor
     ·exact fun h=> .inl h
     ·rintro (h | ⟨-,⟨f,hf,-⟩,hl⟩)
      ·exact h
      ·have h1:=HRH.out.has i
       rw [hl] at h1
       have h2:(heldM Z P4 i).isSome=true:=by unfold heldM;rw [hf];rfl
       rw [h2] at h1
       cases h1
    ·have:=HI.out.cnt
     rw [HC2.out]
     omega
   case round=>
    obtain ⟨zs2,left2,cnt2,HO2,HNE2,HRG2,HX2,HI2⟩:=hrel
    have HSZ2:Hid (r + 1≤wr.heap.size):=hide (by have:=HRG2.out.lt;have:=HR2L.out;omega)
    have HZ2:Hid (zs2.length < 1000000):=hide (by have:=HI2.out.cnt;have:=HC5.out;have:=HC6.out;have:=HIS.out.2;have:=HNB.out;omega)
    go_wp2_with (first
     | (at_next;refine wpList_next_map _ rfl (.tmp 34) rfl ptrR hb r2 P4.n Dh (heldM Z P4) P4.n HRH.out (fun i=> .pointer (some ⟨Z.fb i,0,none⟩)) (ptr_val Z P4) left2 cnt2 rfl HRG2.out ?_ ?_)
     | go_in)
    ·intro _ hl0
     have HL0:=hide hl0
     clear hl0
     have KSO:=hide (HSRT.out wr (r + 1) _ zs2 HO2.out HZ2.out)
     go_wp2_with (go_at_call 130;(with_reducible refine KSO.out.mono ?_);rintro e w6 ⟨rfl,hg6,A,cc,zs',hv6,hpm,hso,hdr,hA⟩;have HG6:=hide hg6;have HV6:=hide hv6;have HPM:=hide hpm;have HSO:=hide hso;have HDR:=hide hdr;clear hg6 hv6 hpm hso hdr hA)
     go_ret
     have hlt:∀k,Value.ownBlock _=some k→_:=World.ownsRow.lt HO2.out
     have hx6:Ext w2 w6:=⟨HG6.out.os.trans HX2.out.os,HG6.out.tape.trans HX2.out.tape,HG6.out.output.trans HX2.out.output,Nat.le_trans HX2.out.size HG6.out.size,fun k hk=>(HG6.out.block k (Nat.lt_of_lt_of_le hk HX2.out.size) fun e=>by
      have:=(hlt k e.symm).1
      have:=HR.out
      omega).trans (Below.block HX2.out k hk)⟩
     refine ⟨A,cc,zs',by rw [HV6.out];rfl,⟨?_,fun i s=> ?_⟩,HP2.out.ext_ hx6,HF2.out.trans (Pfr.ext hx6) (Pk.Later.refl' HIS.out.1),HDR.out⟩
     ·have hnd:(zs'.map Prod.fst).Nodup:=(HPM.out.map Prod.fst).nodup_iff.2 HI2.out.nodup
      exact rise_of HSO.out hnd
     ·rw [HPM.out.mem_iff,HI2.out.mem]
      constructor
      ·rintro (h | ⟨h1,h2,-⟩)
       ·exact .inl h
       ·exact .inr ⟨h1,h2⟩
      ·rintro (h | ⟨h1,h2⟩)
       ·exact .inl h
       ·exact .inr ⟨h1,h2,HL0.out _⟩
    ·intro i w6 cnt6 hsm hi5 hlk hrg6 hlt hgr hsz hen
     obtain ⟨f,hf⟩:∃f,P4.H i=some f:=by
      unfold heldM at hsm
      cases hq:P4.H i with
      | none=>rw [hq] at hsm;cases hsm
      | some f=>exact ⟨f,rfl⟩
     have HF:=hide hf
     have HX6:Hid (Ext w2 w6):=hide (HX2.out.grown hgr (by have:=HR2L.out;have:=HR.out;omega))
     have HRG6:=hide hrg6
     have HLT:=hide hlt
     have HLK:=hide hlk
     have HSZ6:Hid (r + 1≤w6.heap.size):=hide (by have:=hrg6.lt;have:=HR2L.out;omega)
     have HO6:Hid (OwnD w6 (r + 1) _ zs2):=hide (by
      unfold OwnD
      exact HO2.out.kept hgr (.inr (fun e=>HNE2.out e)))
     have H6:=hide (HP2.out.ext_ HX6.out)
     have f5:=OKF.out i f hf
     obtain ⟨-,-,g6,g7,-⟩:=fr_get f5
     have k6:=(H6.out.fr i f hf).cell g6
     have k7:=(H6.out.fr i f hf).cell g7
     have c6:=H6.out.blk.cell (i:=6) rfl
     obtain ⟨v8,ps8,hlk8,hv8⟩:=H6.out.way.look_ok (t:=86) (e:=34) Tryz.underlying86 (z:= .int .u64 0) (by kernel_rfl) (zd:= .lit (.int .u64 0)) (zp:= []) rfl i hi5
     clear hv8 hsm hi5 hlk hrg6 hlt hgr hsz f5 g6 g7 hf
     have HS:=hide (left_step left2 i)
     have hlt0:∀k,Value.ownBlock _=some k→_:=World.ownsRow.lt HO6.out
     obtain ⟨chv,HCH⟩:∃chv,Hid (f.ch=chv):=⟨_,hide rfl⟩
     rw [HCH.out] at k6
     have HSTAY:∀(hno:∀t,¬(P4.W i=none∧∃g,P4.H i=some g∧g.ch=true∧g.since=t)),Di2 P4 (fun z=>left2 z && !z.sameKey (ik i)) cnt6 (C + C2) zs2:=fun hno=>by
      refine ⟨HI2.out.nodup,fun j s=> ?_,by have:=HI2.out.cnt;have:=HLT.out;omega⟩
      rw [HI2.out.mem,HS.out]
      constructor
      ·rintro (h | ⟨h1,h2,h3⟩)
       ·exact .inl h
       ·exact .inr ⟨h1,h2, .inl h3⟩
      ·rintro (h | ⟨h1,h2,h3 | h3⟩)
       ·exact .inl h
       ·exact .inr ⟨h1,h2,h3⟩
       ·obtain rfl:=ik_inj h3
        exact absurd ⟨h1,h2⟩ (hno s)
     have HST:=hide HSTAY
     clear HSTAY
     cases hW:P4.W i with
     | some sv=>
      have hsm:(wayM P4 i).isSome=true:=by unfold wayM;rw [hW];rfl
      rw [hsm] at hlk8
      have HWN:Hid (∀t,¬(P4.W i=none∧∃g,P4.H i=some g∧g.ch=true∧g.since=t)):=hide (fun t h=>by rw [hW] at h;cases h.1)
      clear hW hsm
      cases chv with
      | true=>
       go_wp2
       refine ⟨⟨zs2,_,cnt6,HO6,HNE2,HRG6,HX6,hide (HST.out HWN.out)⟩, ?_⟩
       rw [HRG6.out.left_eq,HRG2.out.left_eq];exact HLT.out
      | false=>
       go_wp2
       refine ⟨⟨zs2,_,cnt6,HO6,HNE2,HRG6,HX6,hide (HST.out HWN.out)⟩, ?_⟩
       rw [HRG6.out.left_eq,HRG2.out.left_eq];exact HLT.out
     | none=>
      have hsm:(wayM P4 i).isSome=false:=by unfold wayM;rw [hW];rfl
      rw [hsm] at hlk8
      have HWN:=hide hW
      clear hW hsm
      cases chv with
      | false=>
       go_wp2
       refine ⟨⟨zs2,_,cnt6,HO6,HNE2,HRG6,HX6,hide (HST.out fun t h=> ?_)⟩, ?_⟩
       ·obtain ⟨-,g,hg,hc,-⟩:=h
        rw [HF.out] at hg
        injection hg with hg
        rw [← hg,HCH.out] at hc
        cases hc
       ·rw [HRG6.out.left_eq,HRG2.out.left_eq];exact HLT.out
      | true=>
       have HZ6:Hid (zs2.length < 1000000):=HZ2
       have HNI:Hid (∀t,(i,t)∉zs2):=hide (fun t h=>by
        rcases (HI2.out.mem i t).1 h with h1 | ⟨-,-,h1⟩
        ·rw [HWN.out] at h1;cases h1
        ·rw [HLK.out] at h1;cases h1)
       go_wp2_with (at_builtin;refine wpList_pushD rfl (.tmp 57) (.tmp 64) rfl (r + 1) _ zs2 i f.since rfl rfl HO6.out HSZ6.out HZ6.out ?_;intro v9 w9 hown9 hgrow9;have HO9:=hide hown9;have HG9:=hide hgrow9;clear hown9 hgrow9)
       have hrg9:=HRG6.out.kept HG9.out (fun e=>by have h1:=(hlt0 _ e.symm).1;have h2:=HP2.out.held.lt;have h3:=HHB.out;have h4:=HR.out;omega) (fun e=>HNE2.out e.symm)
       refine ⟨⟨zs2 ++ [(i,f.since)],_,cnt6,HO9,hide ?_,hide hrg9,hide ?_,hide ⟨?_,fun j t=> ?_, ?_⟩⟩, ?_⟩
       ·intro e
        obtain ⟨es,ck,si,se,c0,-,-,-,-,hit,-⟩:=hrg9
        rcases HO9.out.2 with ⟨hv,-⟩ | ⟨g9,cap9,cur9,hv,-,hg9,-⟩
        ·rw [hv] at e;cases e
        ·rw [hv] at e
         have e:g9=r2:=by simpa [Value.ownBlock] using e
         rw [e,hit] at hg9
         injection hg9 with hg9
         cases hg9
       ·refine ⟨HG9.out.os.trans HX6.out.os,HG9.out.tape.trans HX6.out.tape,HG9.out.output.trans HX6.out.output,Nat.le_trans HX6.out.size HG9.out.size,fun k hk=>(HG9.out.block k (Nat.lt_of_lt_of_le hk HX6.out.size) fun e=> ?_).trans (Below.block HX6.out k hk)⟩
        have:=(hlt0 k e.symm).1
        have:=HR.out
        omega
       ·rw [List.map_append,List.nodup_append]
        refine ⟨HI2.out.nodup,by simp,fun a ha b hb=> ?_⟩
        simp only [List.map_cons,List.map_nil,List.mem_singleton] at hb
        intro e
        obtain ⟨q,hq,e2⟩:=List.mem_map.1 ha
        have e3:q=(i,q.2):=Prod.ext (by rw [e2,e,hb]) rfl
        rw [e3] at hq
        exact HNI.out _ hq
       ·rw [List.mem_append,List.mem_singleton,HI2.out.mem,HS.out]
        constructor
        ·rintro ((h | ⟨h1,h2,h3⟩) | h)
         ·exact .inl h
         ·exact .inr ⟨h1,h2, .inl h3⟩
         ·injection h with h1 h2
          subst h1 h2
          exact .inr ⟨HWN.out,⟨f,HF.out,HCH.out,rfl⟩, .inr rfl⟩
        ·rintro (h | ⟨h1,h2,h3 | h3⟩)
         ·exact .inl (.inl h)
         ·exact .inl (.inr ⟨h1,h2,h3⟩)
         ·obtain rfl:=ik_inj h3
          obtain ⟨g,hg,hc,hs⟩:=h2
          rw [HF.out] at hg
          injection hg with hg
          exact .inr (by rw [← hs,← hg])
       ·rw [List.length_append]
        have:=HI2.out.cnt
        have:=HLT.out
        show zs2.length + 1 + cnt6≤C + C2
        omega
       ·rw [hrg9.left_eq,HRG2.out.left_eq];exact HLT.out
  ·intro i w4 cnt2 hsm hi5 hlk hrg2 hlt hgr hsz hen
   obtain ⟨s,hs⟩:∃s,P4.W i=some s:=by
    unfold wayM at hsm
    cases hq:P4.W i with
    | none=>rw [hq] at hsm;cases hsm
    | some s=>exact ⟨s,rfl⟩
   have HSV:Hid ((P4.W i).getD 0=s):=hide (by rw [hs];rfl)
   rw [HSV.out] at hen ⊢
   have HS:=hide hs
   have HX4:Hid (Ext w2 w4):=hide (HX.out.grown hgr (Nat.le_of_eq HR.out))
   have HRG4:=hide hrg2
   have HLT:=hide hlt
   have HLK:=hide hlk
   have HSZ4:Hid (r + 1≤w4.heap.size):=hide hrg2.lt
   have HO4:Hid (OwnD w4 (r + 1) _ zs):=hide (by
    unfold OwnD
    exact HO.out.kept hgr (by
     refine .inr fun e=> ?_
     have h1:=(World.ownsRow.lt HO.out _ e).1
     omega))
   have HZ6:Hid (zs.length < 1000000):=hide (by have:=HZL.out;have:=HIS.out.2.2;have:=HNB.out;omega)
   clear hsm hi5 hlk hrg2 hlt hgr hsz hs
   have HNI:Hid (∀t,(i,t)∉zs):=hide (fun t h=>by
    have h1:=((HI.out.mem i t).1 h).2
    rw [HLK.out] at h1
    cases h1)
   go_wp2_with (at_builtin;refine wpList_pushD rfl (.tmp 24) (.tmp 28) rfl (r + 1) _ zs i s rfl rfl HO4.out HSZ4.out HZ6.out ?_;intro v5 w5 hown5 hgrow5;have HO5:=hide hown5;have HG5:=hide hgrow5;clear hown5 hgrow5)
   have hlt2:∀k,Value.ownBlock _=some k→_:=World.ownsRow.lt HO4.out
   have hrg5:=HRG4.out.kept HG5.out (fun e=>by have:=(hlt2 _ e.symm).1;have:=HOR.out;omega) (fun e=>by have:=(hlt2 _ e.symm).1;omega)
   refine ⟨⟨zs ++ [(i,s)],_,cnt2,HO5,hide hrg5,hide ?_,hide ⟨?_,fun j t=> ?_, ?_⟩⟩, ?_⟩
   ·refine ⟨HG5.out.os.trans HX4.out.os,HG5.out.tape.trans HX4.out.tape,HG5.out.output.trans HX4.out.output,Nat.le_trans HX4.out.size HG5.out.size,fun k hk=>(HG5.out.block k (Nat.lt_of_lt_of_le hk HX4.out.size) fun e=> ?_).trans (Below.block HX4.out k hk)⟩
    have:=(hlt2 k e.symm).1
    have:=HR.out
    omega
   ·rw [List.map_append,List.nodup_append]
    refine ⟨HI.out.nodup,by simp,fun a ha b hb=> ?_⟩
    simp only [List.map_cons,List.map_nil,List.mem_singleton] at hb
    intro e
    obtain ⟨q,hq,e2⟩:=List.mem_map.1 ha
    have e3:q=(i,q.2):=Prod.ext (by rw [e2,e,hb]) rfl
    rw [e3] at hq
    exact HNI.out _ hq
   ·rw [List.mem_append,List.mem_singleton,HI.out.mem,left_step]
    constructor
    ·rintro (h | h)
     ·exact ⟨h.1, .inl h.2⟩
     ·injection h with h1 h2
      subst h1 h2
      exact ⟨HS.out, .inr rfl⟩
    ·rintro ⟨h1,h2 | h2⟩
     ·exact .inl ⟨h1,h2⟩
     ·obtain rfl:=ik_inj h2
      rw [HS.out] at h1
      injection h1 with h1
      exact .inr (by rw [h1])
   ·rw [List.length_append]
    have:=HI.out.cnt
    have:=HLT.out
    show zs.length + 1 + cnt2≤C
    omega
   ·rw [hrg5.left_eq,HRG.out.left_eq];exact HLT.out
end
def rsE (D:Dk) (L:Lg) (a:Nat):Int:=
 if flo L.sure≤a then 0 else if D.off=true then 8 else if ptThere D L a=true∧480≤(ptAt D (secOf L a)).by_.length then 0 else 1
def rsB (D:Dk) (L:Lg) (a:Nat):List UInt8:=
 if flo L.sure≤a then L.tail.drop (a - flo L.sure) else if D.off=true then [] else if ptThere D L a=true∧480≤(ptAt D (secOf L a)).by_.length then (ptAt D (secOf L a)).by_.drop (a % 480) else []
def RestPost (w:World) (l:List UInt8) (er:Int) (e:Ending) (w':World):Prop:=∃A n c,e= .returned (.tuple #[.slice A n c, .int .i64 er])∧n=l.length∧n≤c∧Rd w' A l∧Ext w w'
section
variable {w0 w w1:World} {X:Bk} {D D':Dk} {L L':Lg} {r:Value} {e:Ending} {w':World}
theorem rest_any (h:LgAt w0 w X D L) (ok:L.Ok D) (b:Bd D) (a:Nat) (ha:a < endOf L) (hT:Tab w0):Calls Tryz.prog 138 #[.pointer (some ⟨X.q,0,none⟩), .int .u64 (a:Int)] w (RestPost w (rsB D L a) (rsE D L a)):=by
 by_cases hin:flo L.sure≤a
 ·have e1:rsE D L a=0:=by unfold rsE;rw [if_pos hin]
  have e2:rsB D L a=L.tail.drop (a - flo L.sure):=by unfold rsB;rw [if_pos hin]
  rw [e1,e2]
  have hi:a - flo L.sure < L.tail.length:=by unfold endOf at ha;omega
  have k:=rest_tail h ok (a - flo L.sure) L.tail.length rfl hi
  rw [show flo L.sure + (a - flo L.sure)=a by omega] at k
  refine k.mono fun e w' hp=> ?_
  obtain ⟨bb,off,c,rfl,hc,hr,hx⟩:=hp
  exact ⟨_,_,_,rfl,by rw [List.length_drop],hc,hr,hx⟩
 ·have hal:=endOf_lt ok
  have hgi:¬(flo L.sure:Int)≤(a:Int):=by omega
  have KT:Hid (Calls Tryz.prog 88 #[.pointer (some ⟨X.q,0,none⟩)] w (Same w (.int .u64 (flo L.sure:Int)))):=hide (tailAt_any h ok)
  have KP:=hide (part_any h ok b a (by omega) hT)
  have HSL:Hid (gE D (secOf L a)=if D.off=true then 8 else 0):=hide (by
   have h1:=secOf_lt ok a
   unfold gE
   rw [if_neg (by omega)])
  have HRE:Hid (rsE D L a=if D.off=true then 8 else if ptThere D L a=true∧480≤(ptAt D (secOf L a)).by_.length then 0 else 1):=hide (by unfold rsE;rw [if_neg hin])
  have HRB:Hid (rsB D L a=if D.off=true then [] else if ptThere D L a=true∧480≤(ptAt D (secOf L a)).by_.length then (ptAt D (secOf L a)).by_.drop (a % 480) else []):=hide (by unfold rsB;rw [if_neg hin])
  have HP48:Hid ((ptAt D (secOf L a)).by_.length≤480):=hide (ptAt_len _ _)
  unfold PartPost at KP
  obtain ⟨xE,HXE⟩:∃xE,Hid (rsE D L a=xE):=⟨_,hide rfl⟩
  obtain ⟨xB,HXB⟩:∃xB,Hid (rsB D L a=xB):=⟨_,hide rfl⟩
  rw [HXE.out] at HRE ⊢
  rw [HXB.out] at HRB ⊢
  obtain ⟨P0,HP0⟩:∃P0,Hid (ptAt D (secOf L a)=P0):=⟨_,hide rfl⟩
  obtain ⟨q,HQ⟩:∃q,Hid (ptThere D L a=q):=⟨_,hide rfl⟩
  rw [HP0.out,HQ.out] at KP HRE HRB
  rw [HP0.out] at HP48
  rw [HSL.out] at KP
  obtain ⟨fl,HFL⟩:∃fl,Hid (flo L.sure=fl):=⟨_,hide rfl⟩
  rw [HFL.out] at KT hgi
  obtain ⟨m,HM⟩:∃m,Hid (a % 480=m):=⟨_,hide rfl⟩
  rw [HM.out] at HRB
  have HML:Hid (m < 480):=hide (by rw [← HM.out];omega)
  have hmi:(a:Int) % 480=(m:Int):=by rw [← HM.out];omega
  clear h ok b ha hT hin hal
  go_enter Tryz.func138,Tryz.ntmps138
  go_upto_region 4 with (first
   | (go_at_call 88;(with_reducible refine KT.out.mono ?_);rintro e w2 ⟨rfl,rfl⟩)
   | (go_at_call 116;(with_reducible refine KP.out.mono ?_);rintro e w2 ⟨P,pc,rfl,hpc,hrp,hx2⟩;have HX2:=hide hx2;have HRP:=hide hrp;have HPC:=hide hpc;clear hpc hrp hx2))
  have HBX:Hid (Rw (w2.alloc (.cells #[.int .u64 P0.num, .int .u64 P0.ep, .int .u64 P0.sz, .slice P P0.by_.length pc] 123)) w2.heap.size 123 [.int .u64 P0.num, .int .u64 P0.ep, .int .u64 P0.sz, .slice P P0.by_.length pc]):=hide (Rw.new w2 123 [.int .u64 P0.num, .int .u64 P0.ep, .int .u64 P0.sz, .slice P P0.by_.length pc])
  have HX3:=hide (HX2.out.trans (Ext.alloc w2 (.cells #[.int .u64 P0.num, .int .u64 P0.ep, .int .u64 P0.sz, .slice P P0.by_.length pc] 123)))
  have HRP3:=hide (HRP.out.ext (Ext.alloc w2 (.cells #[.int .u64 P0.num, .int .u64 P0.ep, .int .u64 P0.sz, .slice P P0.by_.length pc] 123)))
  obtain ⟨bx,HBE⟩:∃bx,Hid (w2.heap.size=bx):=⟨_,hide rfl⟩
  rw [HBE.out] at HBX ⊢
  generalize w2.alloc (.cells #[.int .u64 P0.num, .int .u64 P0.ep, .int .u64 P0.sz, .slice P P0.by_.length pc] 123)=w3 at *
  clear HX2 HRP HBE
  cases hd:D.off with
  | true=>
   rw [hd,if_pos rfl] at HRE HRB
   have hxe:xE=8:=HRE.out
   have hxb:xB= []:=HRB.out
   subst hxe hxb
   go_wp2
   go_ret2
   exact ⟨_,_,_,rfl,rfl,Nat.le_refl _,Rd.nil _ _,HX3.out⟩
  | false=>
   rw [hd,if_neg (by decide)] at HRE HRB
   clear hd
   have k3:=HBX.out.cell (i:=3) rfl
   cases q with
   | false=>
    rw [if_neg (by simp)] at HRE HRB
    have hxe:xE=1:=HRE.out
    have hxb:xB= []:=HRB.out
    subst hxe hxb
    go_wp2
    go_ret2
    exact ⟨_,_,_,rfl,rfl,Nat.le_refl _,Rd.nil _ _,HX3.out⟩
   | true=>
    obtain ⟨n0,HN0⟩:∃n0,Hid (P0.by_.length=n0):=⟨_,hide rfl⟩
    rw [HN0.out] at HRE HRB HP48 HPC k3 ⊢
    by_cases h48:480≤n0
    ·rw [if_pos ⟨rfl,h48⟩] at HRE HRB
     have hn48:n0=480:=by have:=HP48.out;omega
     subst hn48
     have hxe:xE=0:=HRE.out
     subst hxe
     obtain ⟨b1,off1,u1,hP1,-,-⟩:=HRP3.out.at (k:=0) (by rw [HN0.out];decide)
     subst hP1
     have HCUT:=hide (HRP3.out.drop m)
     rw [add_flat] at HCUT
     have hs1:¬pc=m:=by have:=HML.out;have:=HPC.out;omega
     have hs2:m≤480:=by have:=HML.out;omega
     have hs3:(m:Int)≤480:=by omega
     clear h48
     go_wp2
     go_ret2
     refine ⟨_,_,_,rfl, ?_,by have:=HPC.out;omega, ?_,HX3.out⟩
     ·rw [HRB.out,List.length_drop,HN0.out]
     ·rw [HRB.out]
      exact HCUT.out
    ·rw [if_neg (fun hh=>h48 hh.2)] at HRE HRB
     have hxe:xE=1:=HRE.out
     have hxb:xB= []:=HRB.out
     subst hxe hxb
     have h48i:(n0:Int) < 480:=by omega
     clear h48
     go_wp2
     go_ret2
     exact ⟨_,_,_,rfl,rfl,Nat.le_refl _,Rd.nil _ _,HX3.out⟩
end
end Go.Proofs.YthmdmgnhfhpcaaaGreatDoor
