/-
  What the card wants, part 10: RcX3, RcX4, RcX5, RcX6, RcX7, RcX.
-/
import Derived.Test.YthmdmgnhfhpcaaaGreatDoorPkCardSvE9
set_option linter.unusedVariables false
set_option linter.unusedSimpArgs false
set_option maxRecDepth 20000
set_option maxHeartbeats 12800000
namespace Go.Proofs.YthmdmgnhfhpcaaaGreatDoor
open Go.RowKit
theorem record_3 (g:Nat) (st:List UInt8×Bool) (w0 w:World) (hx:Ext w0 w) (hg0:w0.heap.size≤g) (hr:RdrAt w0 w g st) (hl:st.1.length≤140737488351232) (hk:num (tk 1 st).1=3):
  Calls Tryz.prog 129 #[.pointer (some ⟨g,0,none⟩)] w (RecP w0 w g (rdRec st)):=by
 have HX:=hide hx
 have HG0:=hide hg0
 have HGL:=hide hr.lt
 have HK:=hide hk
 have HL0:=hide hl
 have R0:=hide hr
 have KP:=hide (fun (W:World)=>(show Calls Tryz.prog 122 #[.int .u8 3] W (fun e w' =>e= .returned (.tuple #[.agg #[.bool true, .bool true, .bool false, .bool true, .bool false], .bool true])∧Ext W w') from partsOf_any 3 W))
 clear hx hg0 hr hl hk
 go_enter Tryz.func129,Tryz.ntmps129
 go_upto_region 2 with fail
 obtain ⟨W1,hX1,hRz,hRh,hgg⟩:∃W1,Ext w W1∧Rw W1 w.heap.size 95 [.int .u8 0, .int .u64 0, .int .u64 0, .int .i64 0, .int .i64 0, .slice none 0 0, .slice none 0 0, .int .u64 0, .slice none 0 0, .bool false]∧Rw W1 (w.heap.size + 1) 95 [.int .u8 0, .int .u64 0, .int .u64 0, .int .i64 0, .int .i64 0, .slice none 0 0, .slice none 0 0, .int .u64 0, .slice none 0 0, .bool false]∧(w.alloc (.cells #[.int .u8 0, .int .u64 0, .int .u64 0, .int .i64 0, .int .i64 0, .slice none 0 0, .slice none 0 0, .int .u64 0, .slice none 0 0, .bool false] 95)).alloc (.cells #[.int .u8 0, .int .u64 0, .int .u64 0, .int .i64 0, .int .i64 0, .slice none 0 0, .slice none 0 0, .int .u64 0, .slice none 0 0, .bool false] 95)=W1:=⟨_,(Ext.alloc _ _).trans (Ext.alloc _ _),(Rw.new w 95 [.int .u8 0, .int .u64 0, .int .u64 0, .int .i64 0, .int .i64 0, .slice none 0 0, .slice none 0 0, .int .u64 0, .slice none 0 0, .bool false]).ext (Ext.alloc _ _),(by have h:=Rw.new (w.alloc (.cells #[.int .u8 0, .int .u64 0, .int .u64 0, .int .i64 0, .int .i64 0, .slice none 0 0, .slice none 0 0, .int .u64 0, .slice none 0 0, .bool false] 95)) 95 [.int .u8 0, .int .u64 0, .int .u64 0, .int .i64 0, .int .i64 0, .slice none 0 0, .slice none 0 0, .int .u64 0, .slice none 0 0, .bool false];rwa [show (w.alloc (.cells #[.int .u8 0, .int .u64 0, .int .u64 0, .int .i64 0, .int .i64 0, .slice none 0 0, .slice none 0 0, .int .u64 0, .slice none 0 0, .bool false] 95)).heap.size=w.heap.size + 1 by simp] at h),rfl⟩
 rw [hgg]
 obtain ⟨hz,HHZ⟩:∃hz,Hid (w.heap.size=hz):=⟨_,hide rfl⟩
 rw [HHZ.out] at hRz hRh ⊢
 obtain ⟨h,HHH⟩:∃h,Hid (hz + 1=h):=⟨_,hide rfl⟩
 rw [HHH.out] at hRh
 try rw [HHH.out]
 have BX1:=hide hRh
 have ZX1:=hide hRz
 have R1:=hide (R0.out.ext hX1)
 have Y1:Hid (Only2 g h w W1):=hide ((Only2.refl g h w).ext hX1)
 have HNE:Hid (h≠g∧hz≠g∧h≠hz∧hz < h):=hide (by have:=HGL.out;have:=HHZ.out;have:=HHH.out;omega)
 have HHW:Hid (w0.heap.size≤h∧w.heap.size≤h∧w.heap.size≤hz):=hide (by have:=HX.out.size;have:=HHZ.out;have:=HHH.out;omega)
 obtain ⟨BB,HBB⟩:∃BB,Hid (W1.heap.size=BB):=⟨_,hide rfl⟩
 have HBL:Hid (h < BB∧hz < BB∧g < BB∧w.heap.size≤BB):=hide (by rw [← HBB.out];exact ⟨BX1.out.lt,ZX1.out.lt,R1.out.lt,hX1.size⟩)
 have S1:Hid (BB≤W1.heap.size):=hide (by rw [HBB.out];exact Nat.le_refl _)
 clear hgg hX1 hRz hRh R0
 have KN:=hide (number_1 g st w0 W1 (Y1.out.ofExt HX.out HG0.out HHW.out.1) R1.out HL0.out)
 rw [HK.out] at KN
 obtain ⟨s2,HS2⟩:∃s,Hid ((tk 1 st).2=s):=⟨_,hide rfl⟩
 rw [HS2.out] at KN
 have HL2:Hid (s2.1.length≤140737488351232):=hide (by rw [← HS2.out];exact Nat.le_trans (tk_left 1 st) HL0.out)
 go_upto_region 3 with (go_at_call 139;(with_reducible refine KN.out.mono ?_);rintro e x2 ⟨_,rfl,rfl,hr2,hg2⟩;have R2:=hide hr2;have BX2:Hid (Rw x2 h 95 [.int .u8 0, .int .u64 0, .int .u64 0, .int .i64 0, .int .i64 0, .slice none 0 0, .slice none 0 0, .int .u64 0, .slice none 0 0, .bool false]):=hide ((hg2.block h BX1.out.lt (fun e=>HNE.out.1 (by injection e))).trans BX1.out);have ZX2:Hid (Rw x2 hz 95 [.int .u8 0, .int .u64 0, .int .u64 0, .int .i64 0, .int .i64 0, .slice none 0 0, .slice none 0 0, .int .u64 0, .slice none 0 0, .bool false]):=hide ((hg2.block hz ZX1.out.lt (fun e=>HNE.out.2.1 (by injection e))).trans ZX1.out);have Y2:Hid (Only2 g h w x2):=hide (Y1.out.grown hg2 (fun b e=> .inl (by injection e with e;exact e.symm)));have S2:Hid (BB≤x2.heap.size):=hide (Nat.le_trans S1.out hg2.size);have cc:=BX2.out.cell (i:=0) rfl;have ff:=BX2.out.frozen 0;clear hr2 hg2)
 obtain ⟨w2,hgg,hB,hZ,hR,hY,hS⟩:∃W,x2.setCell ⟨h,0,none⟩ (.int .u8 3)=W∧Rw W h 95 [.int .u8 3, .int .u64 0, .int .u64 0, .int .i64 0, .int .i64 0, .slice none 0 0, .slice none 0 0, .int .u64 0, .slice none 0 0, .bool false]∧Rw W hz 95 [.int .u8 0, .int .u64 0, .int .u64 0, .int .i64 0, .int .i64 0, .slice none 0 0, .slice none 0 0, .int .u64 0, .slice none 0 0, .bool false]∧RdrAt w0 W g s2∧Only2 g h w W∧BB≤W.heap.size:=⟨_,rfl,BX2.out.set 0 _,ZX2.out.far (fun e=>HNE.out.2.2.1 e.symm) _,R2.out.same (Below.heap_setCell x2 ⟨h,0,none⟩ _ g (fun e=>HNE.out.1 e.symm)),Y2.out.set 0 _,Nat.le_trans S2.out (by simp [World.setCell])⟩
 rw [hgg]
 have BX2:=hide hB
 have ZX2:=hide hZ
 have R2:=hide hR
 have Y2:=hide hY
 have S2:=hide hS
 clear hgg hB hZ hR hY hS cc ff
 clear KN
 have KN:=hide (number_8 g s2 w0 w2 (Y2.out.ofExt HX.out HG0.out HHW.out.1) R2.out HL2.out)
 obtain ⟨tx,HU3⟩:∃u,Hid (num (tk 8 s2).1=u):=⟨_,hide rfl⟩
 rw [HU3.out] at KN
 obtain ⟨s3,HS3⟩:∃s,Hid ((tk 8 s2).2=s):=⟨_,hide rfl⟩
 rw [HS3.out] at KN
 have HL3:Hid (s3.1.length≤140737488351232):=hide (by rw [← HS3.out];exact Nat.le_trans (tk_left 8 s2) HL2.out)
 go_upto_region 4 with (go_at_call 139;(with_reducible refine KN.out.mono ?_);rintro e x3 ⟨_,rfl,rfl,hr2,hg2⟩;have R3:=hide hr2;have BX3:Hid (Rw x3 h 95 [.int .u8 3, .int .u64 0, .int .u64 0, .int .i64 0, .int .i64 0, .slice none 0 0, .slice none 0 0, .int .u64 0, .slice none 0 0, .bool false]):=hide ((hg2.block h BX2.out.lt (fun e=>HNE.out.1 (by injection e))).trans BX2.out);have ZX3:Hid (Rw x3 hz 95 [.int .u8 0, .int .u64 0, .int .u64 0, .int .i64 0, .int .i64 0, .slice none 0 0, .slice none 0 0, .int .u64 0, .slice none 0 0, .bool false]):=hide ((hg2.block hz ZX2.out.lt (fun e=>HNE.out.2.1 (by injection e))).trans ZX2.out);have Y3:Hid (Only2 g h w x3):=hide (Y2.out.grown hg2 (fun b e=> .inl (by injection e with e;exact e.symm)));have S3:Hid (BB≤x3.heap.size):=hide (Nat.le_trans S2.out hg2.size);have cc:=BX3.out.cell (i:=1) rfl;have ff:=BX3.out.frozen 1;clear hr2 hg2)
 obtain ⟨w3,hgg,hB,hZ,hR,hY,hS⟩:∃W,x3.setCell ⟨h,1,none⟩ (.int .u64 tx)=W∧Rw W h 95 [.int .u8 3, .int .u64 tx, .int .u64 0, .int .i64 0, .int .i64 0, .slice none 0 0, .slice none 0 0, .int .u64 0, .slice none 0 0, .bool false]∧Rw W hz 95 [.int .u8 0, .int .u64 0, .int .u64 0, .int .i64 0, .int .i64 0, .slice none 0 0, .slice none 0 0, .int .u64 0, .slice none 0 0, .bool false]∧RdrAt w0 W g s3∧Only2 g h w W∧BB≤W.heap.size:=⟨_,rfl,BX3.out.set 1 _,ZX3.out.far (fun e=>HNE.out.2.2.1 e.symm) _,R3.out.same (Below.heap_setCell x3 ⟨h,1,none⟩ _ g (fun e=>HNE.out.1 e.symm)),Y3.out.set 1 _,Nat.le_trans S3.out (by simp [World.setCell])⟩
 rw [hgg]
 have BX3:=hide hB
 have ZX3:=hide hZ
 have R3:=hide hR
 have Y3:=hide hY
 have S3:=hide hS
 clear hgg hB hZ hR hY hS cc ff
 clear KN
 have cc:=BX3.out.cell (i:=0) rfl
 go_upto_region 5 with (go_at_call 122;(with_reducible refine (KP.out _).mono ?_);rintro e xp ⟨rfl,hxp⟩;have XP:=hide hxp;clear hxp)
 clear cc KP
 obtain ⟨w4,hXQ,hQ,hgg⟩:∃W,Ext w3 W∧Rw W xp.heap.size 162 [.bool true, .bool true, .bool false, .bool true, .bool false]∧xp.alloc (.cells #[.bool true, .bool true, .bool false, .bool true, .bool false] 162)=W:=⟨_,XP.out.trans (Ext.alloc _ _),Rw.new _ _ _,rfl⟩
 rw [hgg]
 obtain ⟨hq,HHQ⟩:∃hq,Hid (xp.heap.size=hq):=⟨_,hide rfl⟩
 rw [HHQ.out] at hQ ⊢
 have BX4:=hide (BX3.out.ext hXQ)
 have ZX4:=hide (ZX3.out.ext hXQ)
 have R4:=hide (R3.out.ext hXQ)
 have Y4:=hide (Y3.out.ext hXQ)
 have S4:Hid (BB≤w4.heap.size):=hide (Nat.le_trans S3.out hXQ.size)
 have QX4:=hide hQ
 have HQN:Hid (hq≠g∧hq≠h):=hide (by have h1:BB≤xp.heap.size:=Nat.le_trans S3.out XP.out.size;have:=HHQ.out;have:=HBL.out;omega)
 clear hgg hXQ hQ
 have q0:=QX4.out.cell (i:=0) rfl
 have q1:=QX4.out.cell (i:=1) rfl
 have q2:=QX4.out.cell (i:=2) rfl
 have q3:=QX4.out.cell (i:=3) rfl
 have q4:=QX4.out.cell (i:=4) rfl
 have KN:=hide (number_8 g s3 w0 w4 (Y4.out.ofExt HX.out HG0.out HHW.out.1) R4.out HL3.out)
 obtain ⟨pv,HU5⟩:∃u,Hid (num (tk 8 s3).1=u):=⟨_,hide rfl⟩
 rw [HU5.out] at KN
 obtain ⟨s5,HS5⟩:∃s,Hid ((tk 8 s3).2=s):=⟨_,hide rfl⟩
 rw [HS5.out] at KN
 have HL5:Hid (s5.1.length≤140737488351232):=hide (by rw [← HS5.out];exact Nat.le_trans (tk_left 8 s3) HL3.out)
 go_upto_region 7 with (go_at_call 139;(with_reducible refine KN.out.mono ?_);rintro e x5 ⟨_,rfl,rfl,hr2,hg2⟩;have R5:=hide hr2;have BX5:Hid (Rw x5 h 95 [.int .u8 3, .int .u64 tx, .int .u64 0, .int .i64 0, .int .i64 0, .slice none 0 0, .slice none 0 0, .int .u64 0, .slice none 0 0, .bool false]):=hide ((hg2.block h BX4.out.lt (fun e=>HNE.out.1 (by injection e))).trans BX4.out);have ZX5:Hid (Rw x5 hz 95 [.int .u8 0, .int .u64 0, .int .u64 0, .int .i64 0, .int .i64 0, .slice none 0 0, .slice none 0 0, .int .u64 0, .slice none 0 0, .bool false]):=hide ((hg2.block hz ZX4.out.lt (fun e=>HNE.out.2.1 (by injection e))).trans ZX4.out);have Y5:Hid (Only2 g h w x5):=hide (Y4.out.grown hg2 (fun b e=> .inl (by injection e with e;exact e.symm)));have S5:Hid (BB≤x5.heap.size):=hide (Nat.le_trans S4.out hg2.size);have cc:=BX5.out.cell (i:=2) rfl;have ff:=BX5.out.frozen 2;have QX5:Hid (Rw _ hq 162 [.bool true, .bool true, .bool false, .bool true, .bool false]):=hide ((hg2.block hq QX4.out.lt (fun e=>HQN.out.1 (by injection e))).trans QX4.out);clear hr2 hg2)
 obtain ⟨w5,hgg,hB,hZ,hR,hY,hS⟩:∃W,x5.setCell ⟨h,2,none⟩ (.int .u64 pv)=W∧Rw W h 95 [.int .u8 3, .int .u64 tx, .int .u64 pv, .int .i64 0, .int .i64 0, .slice none 0 0, .slice none 0 0, .int .u64 0, .slice none 0 0, .bool false]∧Rw W hz 95 [.int .u8 0, .int .u64 0, .int .u64 0, .int .i64 0, .int .i64 0, .slice none 0 0, .slice none 0 0, .int .u64 0, .slice none 0 0, .bool false]∧RdrAt w0 W g s5∧Only2 g h w W∧BB≤W.heap.size:=⟨_,rfl,BX5.out.set 2 _,ZX5.out.far (fun e=>HNE.out.2.2.1 e.symm) _,R5.out.same (Below.heap_setCell x5 ⟨h,2,none⟩ _ g (fun e=>HNE.out.1 e.symm)),Y5.out.set 2 _,Nat.le_trans S5.out (by simp [World.setCell])⟩
 rw [hgg]
 have QX5:=hide (hgg▸(QX5.out.far (p:=⟨h,2,none⟩) HQN.out.2 (.int .u64 pv)))
 have BX5:=hide hB
 have ZX5:=hide hZ
 have R5:=hide hR
 have Y5:=hide hY
 have S5:=hide hS
 clear hgg hB hZ hR hY hS cc ff
 clear KN
 clear q0 q1 q2 q3 q4
 have q0:=QX5.out.cell (i:=0) rfl
 have q1:=QX5.out.cell (i:=1) rfl
 have q2:=QX5.out.cell (i:=2) rfl
 have q3:=QX5.out.cell (i:=3) rfl
 have q4:=QX5.out.cell (i:=4) rfl
 have KN:=hide (number_2 g s5 w0 w5 (Y5.out.ofExt HX.out HG0.out HHW.out.1) R5.out HL5.out)
 obtain ⟨pg,HU6⟩:∃u,Hid (num (tk 2 s5).1=u):=⟨_,hide rfl⟩
 have bpg:0≤(pg:Int)∧(pg:Int) < 65536:=by have h:=num_lt 2 s5;rw [HU6.out] at h;exact ⟨h.1,by have:=h.2;omega⟩
 have wpg:IntKind.i64.wrap (pg:Int)=(pg:Int):=by rw [IntKind.wrap_i64];omega
 rw [HU6.out] at KN
 obtain ⟨s6,HS6⟩:∃s,Hid ((tk 2 s5).2=s):=⟨_,hide rfl⟩
 rw [HS6.out] at KN
 have HL6:Hid (s6.1.length≤140737488351232):=hide (by rw [← HS6.out];exact Nat.le_trans (tk_left 2 s5) HL5.out)
 go_upto_region 9 with (go_at_call 139;(with_reducible refine KN.out.mono ?_);rintro e x6 ⟨_,rfl,rfl,hr2,hg2⟩;have R6:=hide hr2;have BX6:Hid (Rw x6 h 95 [.int .u8 3, .int .u64 tx, .int .u64 pv, .int .i64 0, .int .i64 0, .slice none 0 0, .slice none 0 0, .int .u64 0, .slice none 0 0, .bool false]):=hide ((hg2.block h BX5.out.lt (fun e=>HNE.out.1 (by injection e))).trans BX5.out);have ZX6:Hid (Rw x6 hz 95 [.int .u8 0, .int .u64 0, .int .u64 0, .int .i64 0, .int .i64 0, .slice none 0 0, .slice none 0 0, .int .u64 0, .slice none 0 0, .bool false]):=hide ((hg2.block hz ZX5.out.lt (fun e=>HNE.out.2.1 (by injection e))).trans ZX5.out);have Y6:Hid (Only2 g h w x6):=hide (Y5.out.grown hg2 (fun b e=> .inl (by injection e with e;exact e.symm)));have S6:Hid (BB≤x6.heap.size):=hide (Nat.le_trans S5.out hg2.size);have cc:=BX6.out.cell (i:=3) rfl;have ff:=BX6.out.frozen 3;have QX6:Hid (Rw _ hq 162 [.bool true, .bool true, .bool false, .bool true, .bool false]):=hide ((hg2.block hq QX5.out.lt (fun e=>HQN.out.1 (by injection e))).trans QX5.out);clear hr2 hg2)
 obtain ⟨w6,hgg,hB,hZ,hR,hY,hS⟩:∃W,x6.setCell ⟨h,3,none⟩ (.int .i64 pg)=W∧Rw W h 95 [.int .u8 3, .int .u64 tx, .int .u64 pv, .int .i64 pg, .int .i64 0, .slice none 0 0, .slice none 0 0, .int .u64 0, .slice none 0 0, .bool false]∧Rw W hz 95 [.int .u8 0, .int .u64 0, .int .u64 0, .int .i64 0, .int .i64 0, .slice none 0 0, .slice none 0 0, .int .u64 0, .slice none 0 0, .bool false]∧RdrAt w0 W g s6∧Only2 g h w W∧BB≤W.heap.size:=⟨_,rfl,BX6.out.set 3 _,ZX6.out.far (fun e=>HNE.out.2.2.1 e.symm) _,R6.out.same (Below.heap_setCell x6 ⟨h,3,none⟩ _ g (fun e=>HNE.out.1 e.symm)),Y6.out.set 3 _,Nat.le_trans S6.out (by simp [World.setCell])⟩
 rw [hgg]
 have QX6:=hide (hgg▸(QX6.out.far (p:=⟨h,3,none⟩) HQN.out.2 (.int .i64 pg)))
 have BX6:=hide hB
 have ZX6:=hide hZ
 have R6:=hide hR
 have Y6:=hide hY
 have S6:=hide hS
 clear hgg hB hZ hR hY hS cc ff
 clear KN
 clear q0 q1 q2 q3 q4
 have q0:=QX6.out.cell (i:=0) rfl
 have q1:=QX6.out.cell (i:=1) rfl
 have q2:=QX6.out.cell (i:=2) rfl
 have q3:=QX6.out.cell (i:=3) rfl
 have q4:=QX6.out.cell (i:=4) rfl
 have KN:=hide (number_2 g s6 w0 w6 (Y6.out.ofExt HX.out HG0.out HHW.out.1) R6.out HL6.out)
 obtain ⟨off,HU7⟩:∃u,Hid (num (tk 2 s6).1=u):=⟨_,hide rfl⟩
 have boff:0≤(off:Int)∧(off:Int) < 65536:=by have h:=num_lt 2 s6;rw [HU7.out] at h;exact ⟨h.1,by have:=h.2;omega⟩
 have woff:IntKind.i64.wrap (off:Int)=(off:Int):=by rw [IntKind.wrap_i64];omega
 rw [HU7.out] at KN
 obtain ⟨s7,HS7⟩:∃s,Hid ((tk 2 s6).2=s):=⟨_,hide rfl⟩
 rw [HS7.out] at KN
 have HL7:Hid (s7.1.length≤140737488351232):=hide (by rw [← HS7.out];exact Nat.le_trans (tk_left 2 s6) HL6.out)
 go_upto_region 10 with (go_at_call 139;(with_reducible refine KN.out.mono ?_);rintro e x7 ⟨_,rfl,rfl,hr2,hg2⟩;have R7:=hide hr2;have BX7:Hid (Rw x7 h 95 [.int .u8 3, .int .u64 tx, .int .u64 pv, .int .i64 pg, .int .i64 0, .slice none 0 0, .slice none 0 0, .int .u64 0, .slice none 0 0, .bool false]):=hide ((hg2.block h BX6.out.lt (fun e=>HNE.out.1 (by injection e))).trans BX6.out);have ZX7:Hid (Rw x7 hz 95 [.int .u8 0, .int .u64 0, .int .u64 0, .int .i64 0, .int .i64 0, .slice none 0 0, .slice none 0 0, .int .u64 0, .slice none 0 0, .bool false]):=hide ((hg2.block hz ZX6.out.lt (fun e=>HNE.out.2.1 (by injection e))).trans ZX6.out);have Y7:Hid (Only2 g h w x7):=hide (Y6.out.grown hg2 (fun b e=> .inl (by injection e with e;exact e.symm)));have S7:Hid (BB≤x7.heap.size):=hide (Nat.le_trans S6.out hg2.size);have cc:=BX7.out.cell (i:=4) rfl;have ff:=BX7.out.frozen 4;have QX7:Hid (Rw _ hq 162 [.bool true, .bool true, .bool false, .bool true, .bool false]):=hide ((hg2.block hq QX6.out.lt (fun e=>HQN.out.1 (by injection e))).trans QX6.out);clear hr2 hg2)
 obtain ⟨w7,hgg,hB,hZ,hR,hY,hS⟩:∃W,x7.setCell ⟨h,4,none⟩ (.int .i64 off)=W∧Rw W h 95 [.int .u8 3, .int .u64 tx, .int .u64 pv, .int .i64 pg, .int .i64 off, .slice none 0 0, .slice none 0 0, .int .u64 0, .slice none 0 0, .bool false]∧Rw W hz 95 [.int .u8 0, .int .u64 0, .int .u64 0, .int .i64 0, .int .i64 0, .slice none 0 0, .slice none 0 0, .int .u64 0, .slice none 0 0, .bool false]∧RdrAt w0 W g s7∧Only2 g h w W∧BB≤W.heap.size:=⟨_,rfl,BX7.out.set 4 _,ZX7.out.far (fun e=>HNE.out.2.2.1 e.symm) _,R7.out.same (Below.heap_setCell x7 ⟨h,4,none⟩ _ g (fun e=>HNE.out.1 e.symm)),Y7.out.set 4 _,Nat.le_trans S7.out (by simp [World.setCell])⟩
 rw [hgg]
 have QX7:=hide (hgg▸(QX7.out.far (p:=⟨h,4,none⟩) HQN.out.2 (.int .i64 off)))
 have BX7:=hide hB
 have ZX7:=hide hZ
 have R7:=hide hR
 have Y7:=hide hY
 have S7:=hide hS
 clear hgg hB hZ hR hY hS cc ff
 clear KN
 clear q0 q1 q2 q3 q4
 have q0:=QX7.out.cell (i:=0) rfl
 have q1:=QX7.out.cell (i:=1) rfl
 have q2:=QX7.out.cell (i:=2) rfl
 have q3:=QX7.out.cell (i:=3) rfl
 have q4:=QX7.out.cell (i:=4) rfl
 have KN:=hide (number_2 g s7 w0 w7 (Y7.out.ofExt HX.out HG0.out HHW.out.1) R7.out HL7.out)
 obtain ⟨sz,HU8⟩:∃u:Nat,Hid (num (tk 2 s7).1=(u:Int)):=by
  obtain ⟨u,hu⟩:=Int.eq_ofNat_of_zero_le (num_lt 2 s7).1
  exact ⟨u,hide hu⟩
 have bsz:0≤(sz:Int)∧(sz:Int) < 65536:=by have h:=num_lt 2 s7;rw [HU8.out] at h;exact ⟨h.1,by have:=h.2;omega⟩
 have wsz:IntKind.i64.wrap (sz:Int)=(sz:Int):=by rw [IntKind.wrap_i64];omega
 rw [HU8.out] at KN
 obtain ⟨s8,HS8⟩:∃s,Hid ((tk 2 s7).2=s):=⟨_,hide rfl⟩
 rw [HS8.out] at KN
 have HL8:Hid (s8.1.length≤140737488351232):=hide (by rw [← HS8.out];exact Nat.le_trans (tk_left 2 s7) HL7.out)
 go_upto_region 11 with (go_at_call 139;(with_reducible refine KN.out.mono ?_);rintro e w8 ⟨_,rfl,rfl,hr2,hg2⟩;have R8:=hide hr2;have BX8:Hid (Rw w8 h 95 [.int .u8 3, .int .u64 tx, .int .u64 pv, .int .i64 pg, .int .i64 off, .slice none 0 0, .slice none 0 0, .int .u64 0, .slice none 0 0, .bool false]):=hide ((hg2.block h BX7.out.lt (fun e=>HNE.out.1 (by injection e))).trans BX7.out);have ZX8:Hid (Rw w8 hz 95 [.int .u8 0, .int .u64 0, .int .u64 0, .int .i64 0, .int .i64 0, .slice none 0 0, .slice none 0 0, .int .u64 0, .slice none 0 0, .bool false]):=hide ((hg2.block hz ZX7.out.lt (fun e=>HNE.out.2.1 (by injection e))).trans ZX7.out);have Y8:Hid (Only2 g h w w8):=hide (Y7.out.grown hg2 (fun b e=> .inl (by injection e with e;exact e.symm)));have S8:Hid (BB≤w8.heap.size):=hide (Nat.le_trans S7.out hg2.size);have QX8:Hid (Rw _ hq 162 [.bool true, .bool true, .bool false, .bool true, .bool false]):=hide ((hg2.block hq QX7.out.lt (fun e=>HQN.out.1 (by injection e))).trans QX7.out);clear hr2 hg2)
 clear KN
 clear q0 q1 q2 q3 q4
 have q0:=QX8.out.cell (i:=0) rfl
 have q1:=QX8.out.cell (i:=1) rfl
 have q2:=QX8.out.cell (i:=2) rfl
 have q3:=QX8.out.cell (i:=3) rfl
 have q4:=QX8.out.cell (i:=4) rfl
 have KN:=hide (take_any g sz s8.1 s8.2 w0 w8 (Y8.out.ofExt HX.out HG0.out HHW.out.1) R8.out HL8.out)
 rw [show (s8.1,s8.2)=s8 from rfl] at KN
 obtain ⟨af,HU9⟩:∃u,Hid ((tk sz s8).1=u):=⟨_,hide rfl⟩
 obtain ⟨s9,HS9⟩:∃s,Hid ((tk sz s8).2=s):=⟨_,hide rfl⟩
 rw [HU9.out,HS9.out] at KN
 have HL9:Hid (s9.1.length≤140737488351232):=hide (by rw [← HS9.out];exact Nat.le_trans (tk_left sz s8) HL8.out)
 go_upto_region 14 with (go_at_call 140;(with_reducible refine KN.out.mono ?_);rintro e x9 ⟨v6,rfl,ho2,hr2,hg2⟩;obtain ⟨AV6,cv6,hv6,-,-⟩:=Own.bytes ho2;subst hv6;have OV6:=hide (own_mono2 ho2 (Nat.le_trans S8.out (Nat.le_refl _)));clear ho2;have R9:=hide hr2;have BX9:Hid (Rw x9 h 95 [.int .u8 3, .int .u64 tx, .int .u64 pv, .int .i64 pg, .int .i64 off, .slice none 0 0, .slice none 0 0, .int .u64 0, .slice none 0 0, .bool false]):=hide ((hg2.block h BX8.out.lt (fun e=>HNE.out.1 (by injection e))).trans BX8.out);have ZX9:Hid (Rw x9 hz 95 [.int .u8 0, .int .u64 0, .int .u64 0, .int .i64 0, .int .i64 0, .slice none 0 0, .slice none 0 0, .int .u64 0, .slice none 0 0, .bool false]):=hide ((hg2.block hz ZX8.out.lt (fun e=>HNE.out.2.1 (by injection e))).trans ZX8.out);have Y9:Hid (Only2 g h w x9):=hide (Y8.out.grown hg2 (fun b e=> .inl (by injection e with e;exact e.symm)));have S9:Hid (BB≤x9.heap.size):=hide (Nat.le_trans S8.out hg2.size);have cc:=BX9.out.cell (i:=6) rfl;have ff:=BX9.out.frozen 6;have QX9:Hid (Rw _ hq 162 [.bool true, .bool true, .bool false, .bool true, .bool false]):=hide ((hg2.block hq QX8.out.lt (fun e=>HQN.out.1 (by injection e))).trans QX8.out);clear hr2 hg2)
 obtain ⟨w9,hgg,hB,hZ,hR,hY,hS,hO6⟩:∃W,x9.setCell ⟨h,6,none⟩ (.slice AV6 af.length cv6)=W∧Rw W h 95 [.int .u8 3, .int .u64 tx, .int .u64 pv, .int .i64 pg, .int .i64 off, .slice none 0 0, .slice AV6 af.length cv6, .int .u64 0, .slice none 0 0, .bool false]∧Rw W hz 95 [.int .u8 0, .int .u64 0, .int .u64 0, .int .i64 0, .int .i64 0, .slice none 0 0, .slice none 0 0, .int .u64 0, .slice none 0 0, .bool false]∧RdrAt w0 W g s9∧Only2 g h w W∧BB≤W.heap.size∧Own W BB (.slice AV6 af.length cv6) af:=⟨_,rfl,BX9.out.set 6 _,ZX9.out.far (fun e=>HNE.out.2.2.1 e.symm) _,R9.out.same (Below.heap_setCell x9 ⟨h,6,none⟩ _ g (fun e=>HNE.out.1 e.symm)),Y9.out.set 6 _,Nat.le_trans S9.out (by simp [World.setCell]),OV6.out.sameB (fun b hb hlt=>Below.heap_setCell x9 ⟨h,6,none⟩ _ b (fun e=>by have:=HBL.out;simp only at e;omega))⟩
 rw [hgg]
 have QX9:=hide (hgg▸(QX9.out.far (p:=⟨h,6,none⟩) HQN.out.2 (.slice AV6 af.length cv6)))
 have BX9:=hide hB
 have ZX9:=hide hZ
 have R9:=hide hR
 have Y9:=hide hY
 have S9:=hide hS
 have OV6:=hide hO6
 clear hgg hB hZ hR hY hS cc ff hO6
 clear KN
 clear q0 q1 q2 q3 q4
 have q0:=QX9.out.cell (i:=0) rfl
 have q1:=QX9.out.cell (i:=1) rfl
 have q2:=QX9.out.cell (i:=2) rfl
 have q3:=QX9.out.cell (i:=3) rfl
 have q4:=QX9.out.cell (i:=4) rfl
 have KN:=hide (number_8 g s9 w0 w9 (Y9.out.ofExt HX.out HG0.out HHW.out.1) R9.out HL9.out)
 obtain ⟨nx,HU10⟩:∃u,Hid (num (tk 8 s9).1=u):=⟨_,hide rfl⟩
 rw [HU10.out] at KN
 obtain ⟨s10,HS10⟩:∃s,Hid ((tk 8 s9).2=s):=⟨_,hide rfl⟩
 rw [HS10.out] at KN
 have HL10:Hid (s10.1.length≤140737488351232):=hide (by rw [← HS10.out];exact Nat.le_trans (tk_left 8 s9) HL9.out)
 go_upto_region 16 with (go_at_call 139;(with_reducible refine KN.out.mono ?_);rintro e x10 ⟨_,rfl,rfl,hr2,hg2⟩;have OV6:=hide (OV6.out.sameB (fun b hb hlt=>hg2.block b hlt (fun e=>by injection e with e;have:=HBL.out;omega)));have R10:=hide hr2;have BX10:Hid (Rw x10 h 95 [.int .u8 3, .int .u64 tx, .int .u64 pv, .int .i64 pg, .int .i64 off, .slice none 0 0, .slice AV6 af.length cv6, .int .u64 0, .slice none 0 0, .bool false]):=hide ((hg2.block h BX9.out.lt (fun e=>HNE.out.1 (by injection e))).trans BX9.out);have ZX10:Hid (Rw x10 hz 95 [.int .u8 0, .int .u64 0, .int .u64 0, .int .i64 0, .int .i64 0, .slice none 0 0, .slice none 0 0, .int .u64 0, .slice none 0 0, .bool false]):=hide ((hg2.block hz ZX9.out.lt (fun e=>HNE.out.2.1 (by injection e))).trans ZX9.out);have Y10:Hid (Only2 g h w x10):=hide (Y9.out.grown hg2 (fun b e=> .inl (by injection e with e;exact e.symm)));have S10:Hid (BB≤x10.heap.size):=hide (Nat.le_trans S9.out hg2.size);have cc:=BX10.out.cell (i:=7) rfl;have ff:=BX10.out.frozen 7;have QX10:Hid (Rw _ hq 162 [.bool true, .bool true, .bool false, .bool true, .bool false]):=hide ((hg2.block hq QX9.out.lt (fun e=>HQN.out.1 (by injection e))).trans QX9.out);clear hr2 hg2)
 obtain ⟨w10,hgg,hB,hZ,hR,hY,hS,hO6⟩:∃W,x10.setCell ⟨h,7,none⟩ (.int .u64 nx)=W∧Rw W h 95 [.int .u8 3, .int .u64 tx, .int .u64 pv, .int .i64 pg, .int .i64 off, .slice none 0 0, .slice AV6 af.length cv6, .int .u64 nx, .slice none 0 0, .bool false]∧Rw W hz 95 [.int .u8 0, .int .u64 0, .int .u64 0, .int .i64 0, .int .i64 0, .slice none 0 0, .slice none 0 0, .int .u64 0, .slice none 0 0, .bool false]∧RdrAt w0 W g s10∧Only2 g h w W∧BB≤W.heap.size∧Own W BB (.slice AV6 af.length cv6) af:=⟨_,rfl,BX10.out.set 7 _,ZX10.out.far (fun e=>HNE.out.2.2.1 e.symm) _,R10.out.same (Below.heap_setCell x10 ⟨h,7,none⟩ _ g (fun e=>HNE.out.1 e.symm)),Y10.out.set 7 _,Nat.le_trans S10.out (by simp [World.setCell]),OV6.out.sameB (fun b hb hlt=>Below.heap_setCell x10 ⟨h,7,none⟩ _ b (fun e=>by have:=HBL.out;simp only at e;omega))⟩
 rw [hgg]
 have QX10:=hide (hgg▸(QX10.out.far (p:=⟨h,7,none⟩) HQN.out.2 (.int .u64 nx)))
 have BX10:=hide hB
 have ZX10:=hide hZ
 have R10:=hide hR
 have Y10:=hide hY
 have S10:=hide hS
 have OV6:=hide hO6
 clear hgg hB hZ hR hY hS cc ff hO6
 clear KN
 clear q0 q1 q2 q3 q4
 have q0:=QX10.out.cell (i:=0) rfl
 have q1:=QX10.out.cell (i:=1) rfl
 have q2:=QX10.out.cell (i:=2) rfl
 have q3:=QX10.out.cell (i:=3) rfl
 have q4:=QX10.out.cell (i:=4) rfl
 have z0:=ZX10.out.cell (i:=0) rfl
 have z1:=ZX10.out.cell (i:=1) rfl
 have z2:=ZX10.out.cell (i:=2) rfl
 have z3:=ZX10.out.cell (i:=3) rfl
 have z4:=ZX10.out.cell (i:=4) rfl
 have z5:=ZX10.out.cell (i:=5) rfl
 have z6:=ZX10.out.cell (i:=6) rfl
 have z7:=ZX10.out.cell (i:=7) rfl
 have z8:=ZX10.out.cell (i:=8) rfl
 have z9:=ZX10.out.cell (i:=9) rfl
 have y0:=BX10.out.cell (i:=0) rfl
 have y1:=BX10.out.cell (i:=1) rfl
 have y2:=BX10.out.cell (i:=2) rfl
 have y3:=BX10.out.cell (i:=3) rfl
 have y4:=BX10.out.cell (i:=4) rfl
 have y5:=BX10.out.cell (i:=5) rfl
 have y6:=BX10.out.cell (i:=6) rfl
 have y7:=BX10.out.cell (i:=7) rfl
 have y8:=BX10.out.cell (i:=8) rfl
 have y9:=BX10.out.cell (i:=9) rfl
 have f0:=ZX10.out.frozen 0
 have f1:=ZX10.out.frozen 1
 have f2:=ZX10.out.frozen 2
 have f3:=ZX10.out.frozen 3
 have f4:=ZX10.out.frozen 4
 have f5:=ZX10.out.frozen 5
 have f6:=ZX10.out.frozen 6
 have f7:=ZX10.out.frozen 7
 have f8:=ZX10.out.frozen 8
 have f9:=ZX10.out.frozen 9
 go_wp2
 have ZZ:=((((((((((ZX10.out.set 0 (.int .u8 3)).set 1 (.int .u64 tx)).set 2 (.int .u64 pv)).set 3 (.int .i64 pg)).set 4 (.int .i64 off)).set 5 (.slice none 0 0)).set 6 (.slice AV6 af.length cv6)).set 7 (.int .u64 nx)).set 8 (.slice none 0 0)).set 9 (.bool false))
 have HS10:=sets_only hz [(0, .int .u8 3),(1, .int .u64 tx),(2, .int .u64 pv),(3, .int .i64 pg),(4, .int .i64 off),(5, .slice none 0 0),(6, .slice AV6 af.length cv6),(7, .int .u64 nx),(8, .slice none 0 0),(9, .bool false)] w10
 simp only [List.foldl_cons,List.foldl_nil] at HS10
 obtain ⟨wz,hwz⟩:∃wz,((((((((((w10).setCell ⟨hz,0,none⟩ (.int .u8 3)).setCell ⟨hz,1,none⟩ (.int .u64 tx)).setCell ⟨hz,2,none⟩ (.int .u64 pv)).setCell ⟨hz,3,none⟩ (.int .i64 pg)).setCell ⟨hz,4,none⟩ (.int .i64 off)).setCell ⟨hz,5,none⟩ (.slice none 0 0)).setCell ⟨hz,6,none⟩ (.slice AV6 af.length cv6)).setCell ⟨hz,7,none⟩ (.int .u64 nx)).setCell ⟨hz,8,none⟩ (.slice none 0 0)).setCell ⟨hz,9,none⟩ (.bool false)=wz:=⟨_,rfl⟩
 rw [hwz] at HS10 ZZ ⊢
 obtain ⟨q1,q2,q3,q4,hsame⟩:=HS10
 clear hwz
 have e0:=ZZ.cell (i:=0) rfl
 have e1:=ZZ.cell (i:=1) rfl
 have e2:=ZZ.cell (i:=2) rfl
 have e3:=ZZ.cell (i:=3) rfl
 have e4:=ZZ.cell (i:=4) rfl
 have e5:=ZZ.cell (i:=5) rfl
 have e6:=ZZ.cell (i:=6) rfl
 have e7:=ZZ.cell (i:=7) rfl
 have e8:=ZZ.cell (i:=8) rfl
 have e9:=ZZ.cell (i:=9) rfl
 have HRD:rdRec st=(⟨3,tx,pv,pg,off, [],af,nx, [],false⟩,s10):=by
  simp [rdRec,rcdN,rcdB,rdD,HK.out,HS2.out,HU3.out,HS3.out,HU5.out,HS5.out,HU6.out,HS6.out,HU7.out,HS7.out,HU8.out,HS8.out,HU9.out,HS9.out,HU10.out,HS10.out,hpv,hch,hbf,hnx,hck]
 rw [HRD]
 have YG:w.grownBy wz (some g):=by
  have h1:=Y10.out.to1 HHW.out.2.1
  exact ⟨q1.trans h1.os,q2.trans h1.tape,q3.trans h1.output,Nat.le_trans h1.size (Nat.le_of_eq q4.symm),fun b hb hne=>(hsame b (by have:=HHW.out;omega)).trans (h1.block b hb hne)⟩
 refine bodyPost_ret (v:= .agg #[.int .u8 3, .int .u64 tx, .int .u64 pv, .int .i64 pg, .int .i64 off, .slice none 0 0, .slice AV6 af.length cv6, .int .u64 nx, .slice none 0 0, .bool false]) (by simp [results,Tryz.results129,go_sem,e0,e1,e2,e3,e4,e5,e6,e7,e8,e9];try rfl) rfl ?_
 exact ⟨_,_,_,rfl,Own.nil _ _,own_mono2 (OV6.out.sameB (fun b hb _=>hsame b (by have:=HBL.out;omega))) HBL.out.2.2.2,OwnDr.nil _ _,R10.out.same (hsame g (fun e=>HNE.out.2.1 e.symm)),YG,fun b hb=>by cases hb⟩
theorem record_4 (g:Nat) (st:List UInt8×Bool) (w0 w:World) (hx:Ext w0 w) (hg0:w0.heap.size≤g) (hr:RdrAt w0 w g st) (hl:st.1.length≤140737488351232) (hk:num (tk 1 st).1=4):
  Calls Tryz.prog 129 #[.pointer (some ⟨g,0,none⟩)] w (RecP w0 w g (rdRec st)):=by
 have HX:=hide hx
 have HG0:=hide hg0
 have HGL:=hide hr.lt
 have HK:=hide hk
 have HL0:=hide hl
 have R0:=hide hr
 have KP:=hide (fun (W:World)=>(show Calls Tryz.prog 122 #[.int .u8 4] W (fun e w' =>e= .returned (.tuple #[.agg #[.bool true, .bool false, .bool false, .bool false, .bool false], .bool true])∧Ext W w') from partsOf_any 4 W))
 clear hx hg0 hr hl hk
 go_enter Tryz.func129,Tryz.ntmps129
 go_upto_region 2 with fail
 obtain ⟨W1,hX1,hRz,hRh,hgg⟩:∃W1,Ext w W1∧Rw W1 w.heap.size 95 [.int .u8 0, .int .u64 0, .int .u64 0, .int .i64 0, .int .i64 0, .slice none 0 0, .slice none 0 0, .int .u64 0, .slice none 0 0, .bool false]∧Rw W1 (w.heap.size + 1) 95 [.int .u8 0, .int .u64 0, .int .u64 0, .int .i64 0, .int .i64 0, .slice none 0 0, .slice none 0 0, .int .u64 0, .slice none 0 0, .bool false]∧(w.alloc (.cells #[.int .u8 0, .int .u64 0, .int .u64 0, .int .i64 0, .int .i64 0, .slice none 0 0, .slice none 0 0, .int .u64 0, .slice none 0 0, .bool false] 95)).alloc (.cells #[.int .u8 0, .int .u64 0, .int .u64 0, .int .i64 0, .int .i64 0, .slice none 0 0, .slice none 0 0, .int .u64 0, .slice none 0 0, .bool false] 95)=W1:=⟨_,(Ext.alloc _ _).trans (Ext.alloc _ _),(Rw.new w 95 [.int .u8 0, .int .u64 0, .int .u64 0, .int .i64 0, .int .i64 0, .slice none 0 0, .slice none 0 0, .int .u64 0, .slice none 0 0, .bool false]).ext (Ext.alloc _ _),(by have h:=Rw.new (w.alloc (.cells #[.int .u8 0, .int .u64 0, .int .u64 0, .int .i64 0, .int .i64 0, .slice none 0 0, .slice none 0 0, .int .u64 0, .slice none 0 0, .bool false] 95)) 95 [.int .u8 0, .int .u64 0, .int .u64 0, .int .i64 0, .int .i64 0, .slice none 0 0, .slice none 0 0, .int .u64 0, .slice none 0 0, .bool false];rwa [show (w.alloc (.cells #[.int .u8 0, .int .u64 0, .int .u64 0, .int .i64 0, .int .i64 0, .slice none 0 0, .slice none 0 0, .int .u64 0, .slice none 0 0, .bool false] 95)).heap.size=w.heap.size + 1 by simp] at h),rfl⟩
 rw [hgg]
 obtain ⟨hz,HHZ⟩:∃hz,Hid (w.heap.size=hz):=⟨_,hide rfl⟩
 rw [HHZ.out] at hRz hRh ⊢
 obtain ⟨h,HHH⟩:∃h,Hid (hz + 1=h):=⟨_,hide rfl⟩
 rw [HHH.out] at hRh
 try rw [HHH.out]
 have BX1:=hide hRh
 have ZX1:=hide hRz
 have R1:=hide (R0.out.ext hX1)
 have Y1:Hid (Only2 g h w W1):=hide ((Only2.refl g h w).ext hX1)
 have HNE:Hid (h≠g∧hz≠g∧h≠hz∧hz < h):=hide (by have:=HGL.out;have:=HHZ.out;have:=HHH.out;omega)
 have HHW:Hid (w0.heap.size≤h∧w.heap.size≤h∧w.heap.size≤hz):=hide (by have:=HX.out.size;have:=HHZ.out;have:=HHH.out;omega)
 obtain ⟨BB,HBB⟩:∃BB,Hid (W1.heap.size=BB):=⟨_,hide rfl⟩
 have HBL:Hid (h < BB∧hz < BB∧g < BB∧w.heap.size≤BB):=hide (by rw [← HBB.out];exact ⟨BX1.out.lt,ZX1.out.lt,R1.out.lt,hX1.size⟩)
 have S1:Hid (BB≤W1.heap.size):=hide (by rw [HBB.out];exact Nat.le_refl _)
 clear hgg hX1 hRz hRh R0
 have KN:=hide (number_1 g st w0 W1 (Y1.out.ofExt HX.out HG0.out HHW.out.1) R1.out HL0.out)
 rw [HK.out] at KN
 obtain ⟨s2,HS2⟩:∃s,Hid ((tk 1 st).2=s):=⟨_,hide rfl⟩
 rw [HS2.out] at KN
 have HL2:Hid (s2.1.length≤140737488351232):=hide (by rw [← HS2.out];exact Nat.le_trans (tk_left 1 st) HL0.out)
 go_upto_region 3 with (go_at_call 139;(with_reducible refine KN.out.mono ?_);rintro e x2 ⟨_,rfl,rfl,hr2,hg2⟩;have R2:=hide hr2;have BX2:Hid (Rw x2 h 95 [.int .u8 0, .int .u64 0, .int .u64 0, .int .i64 0, .int .i64 0, .slice none 0 0, .slice none 0 0, .int .u64 0, .slice none 0 0, .bool false]):=hide ((hg2.block h BX1.out.lt (fun e=>HNE.out.1 (by injection e))).trans BX1.out);have ZX2:Hid (Rw x2 hz 95 [.int .u8 0, .int .u64 0, .int .u64 0, .int .i64 0, .int .i64 0, .slice none 0 0, .slice none 0 0, .int .u64 0, .slice none 0 0, .bool false]):=hide ((hg2.block hz ZX1.out.lt (fun e=>HNE.out.2.1 (by injection e))).trans ZX1.out);have Y2:Hid (Only2 g h w x2):=hide (Y1.out.grown hg2 (fun b e=> .inl (by injection e with e;exact e.symm)));have S2:Hid (BB≤x2.heap.size):=hide (Nat.le_trans S1.out hg2.size);have cc:=BX2.out.cell (i:=0) rfl;have ff:=BX2.out.frozen 0;clear hr2 hg2)
 obtain ⟨w2,hgg,hB,hZ,hR,hY,hS⟩:∃W,x2.setCell ⟨h,0,none⟩ (.int .u8 4)=W∧Rw W h 95 [.int .u8 4, .int .u64 0, .int .u64 0, .int .i64 0, .int .i64 0, .slice none 0 0, .slice none 0 0, .int .u64 0, .slice none 0 0, .bool false]∧Rw W hz 95 [.int .u8 0, .int .u64 0, .int .u64 0, .int .i64 0, .int .i64 0, .slice none 0 0, .slice none 0 0, .int .u64 0, .slice none 0 0, .bool false]∧RdrAt w0 W g s2∧Only2 g h w W∧BB≤W.heap.size:=⟨_,rfl,BX2.out.set 0 _,ZX2.out.far (fun e=>HNE.out.2.2.1 e.symm) _,R2.out.same (Below.heap_setCell x2 ⟨h,0,none⟩ _ g (fun e=>HNE.out.1 e.symm)),Y2.out.set 0 _,Nat.le_trans S2.out (by simp [World.setCell])⟩
 rw [hgg]
 have BX2:=hide hB
 have ZX2:=hide hZ
 have R2:=hide hR
 have Y2:=hide hY
 have S2:=hide hS
 clear hgg hB hZ hR hY hS cc ff
 clear KN
 have KN:=hide (number_8 g s2 w0 w2 (Y2.out.ofExt HX.out HG0.out HHW.out.1) R2.out HL2.out)
 obtain ⟨tx,HU3⟩:∃u,Hid (num (tk 8 s2).1=u):=⟨_,hide rfl⟩
 rw [HU3.out] at KN
 obtain ⟨s3,HS3⟩:∃s,Hid ((tk 8 s2).2=s):=⟨_,hide rfl⟩
 rw [HS3.out] at KN
 have HL3:Hid (s3.1.length≤140737488351232):=hide (by rw [← HS3.out];exact Nat.le_trans (tk_left 8 s2) HL2.out)
 go_upto_region 4 with (go_at_call 139;(with_reducible refine KN.out.mono ?_);rintro e x3 ⟨_,rfl,rfl,hr2,hg2⟩;have R3:=hide hr2;have BX3:Hid (Rw x3 h 95 [.int .u8 4, .int .u64 0, .int .u64 0, .int .i64 0, .int .i64 0, .slice none 0 0, .slice none 0 0, .int .u64 0, .slice none 0 0, .bool false]):=hide ((hg2.block h BX2.out.lt (fun e=>HNE.out.1 (by injection e))).trans BX2.out);have ZX3:Hid (Rw x3 hz 95 [.int .u8 0, .int .u64 0, .int .u64 0, .int .i64 0, .int .i64 0, .slice none 0 0, .slice none 0 0, .int .u64 0, .slice none 0 0, .bool false]):=hide ((hg2.block hz ZX2.out.lt (fun e=>HNE.out.2.1 (by injection e))).trans ZX2.out);have Y3:Hid (Only2 g h w x3):=hide (Y2.out.grown hg2 (fun b e=> .inl (by injection e with e;exact e.symm)));have S3:Hid (BB≤x3.heap.size):=hide (Nat.le_trans S2.out hg2.size);have cc:=BX3.out.cell (i:=1) rfl;have ff:=BX3.out.frozen 1;clear hr2 hg2)
 obtain ⟨w3,hgg,hB,hZ,hR,hY,hS⟩:∃W,x3.setCell ⟨h,1,none⟩ (.int .u64 tx)=W∧Rw W h 95 [.int .u8 4, .int .u64 tx, .int .u64 0, .int .i64 0, .int .i64 0, .slice none 0 0, .slice none 0 0, .int .u64 0, .slice none 0 0, .bool false]∧Rw W hz 95 [.int .u8 0, .int .u64 0, .int .u64 0, .int .i64 0, .int .i64 0, .slice none 0 0, .slice none 0 0, .int .u64 0, .slice none 0 0, .bool false]∧RdrAt w0 W g s3∧Only2 g h w W∧BB≤W.heap.size:=⟨_,rfl,BX3.out.set 1 _,ZX3.out.far (fun e=>HNE.out.2.2.1 e.symm) _,R3.out.same (Below.heap_setCell x3 ⟨h,1,none⟩ _ g (fun e=>HNE.out.1 e.symm)),Y3.out.set 1 _,Nat.le_trans S3.out (by simp [World.setCell])⟩
 rw [hgg]
 have BX3:=hide hB
 have ZX3:=hide hZ
 have R3:=hide hR
 have Y3:=hide hY
 have S3:=hide hS
 clear hgg hB hZ hR hY hS cc ff
 clear KN
 have cc:=BX3.out.cell (i:=0) rfl
 go_upto_region 5 with (go_at_call 122;(with_reducible refine (KP.out _).mono ?_);rintro e xp ⟨rfl,hxp⟩;have XP:=hide hxp;clear hxp)
 clear cc KP
 obtain ⟨w4,hXQ,hQ,hgg⟩:∃W,Ext w3 W∧Rw W xp.heap.size 162 [.bool true, .bool false, .bool false, .bool false, .bool false]∧xp.alloc (.cells #[.bool true, .bool false, .bool false, .bool false, .bool false] 162)=W:=⟨_,XP.out.trans (Ext.alloc _ _),Rw.new _ _ _,rfl⟩
 rw [hgg]
 obtain ⟨hq,HHQ⟩:∃hq,Hid (xp.heap.size=hq):=⟨_,hide rfl⟩
 rw [HHQ.out] at hQ ⊢
 have BX4:=hide (BX3.out.ext hXQ)
 have ZX4:=hide (ZX3.out.ext hXQ)
 have R4:=hide (R3.out.ext hXQ)
 have Y4:=hide (Y3.out.ext hXQ)
 have S4:Hid (BB≤w4.heap.size):=hide (Nat.le_trans S3.out hXQ.size)
 have QX4:=hide hQ
 have HQN:Hid (hq≠g∧hq≠h):=hide (by have h1:BB≤xp.heap.size:=Nat.le_trans S3.out XP.out.size;have:=HHQ.out;have:=HBL.out;omega)
 clear hgg hXQ hQ
 have q0:=QX4.out.cell (i:=0) rfl
 have q1:=QX4.out.cell (i:=1) rfl
 have q2:=QX4.out.cell (i:=2) rfl
 have q3:=QX4.out.cell (i:=3) rfl
 have q4:=QX4.out.cell (i:=4) rfl
 have KN:=hide (number_8 g s3 w0 w4 (Y4.out.ofExt HX.out HG0.out HHW.out.1) R4.out HL3.out)
 obtain ⟨pv,HU5⟩:∃u,Hid (num (tk 8 s3).1=u):=⟨_,hide rfl⟩
 rw [HU5.out] at KN
 obtain ⟨s5,HS5⟩:∃s,Hid ((tk 8 s3).2=s):=⟨_,hide rfl⟩
 rw [HS5.out] at KN
 have HL5:Hid (s5.1.length≤140737488351232):=hide (by rw [← HS5.out];exact Nat.le_trans (tk_left 8 s3) HL3.out)
 go_upto_region 7 with (go_at_call 139;(with_reducible refine KN.out.mono ?_);rintro e x5 ⟨_,rfl,rfl,hr2,hg2⟩;have R5:=hide hr2;have BX5:Hid (Rw x5 h 95 [.int .u8 4, .int .u64 tx, .int .u64 0, .int .i64 0, .int .i64 0, .slice none 0 0, .slice none 0 0, .int .u64 0, .slice none 0 0, .bool false]):=hide ((hg2.block h BX4.out.lt (fun e=>HNE.out.1 (by injection e))).trans BX4.out);have ZX5:Hid (Rw x5 hz 95 [.int .u8 0, .int .u64 0, .int .u64 0, .int .i64 0, .int .i64 0, .slice none 0 0, .slice none 0 0, .int .u64 0, .slice none 0 0, .bool false]):=hide ((hg2.block hz ZX4.out.lt (fun e=>HNE.out.2.1 (by injection e))).trans ZX4.out);have Y5:Hid (Only2 g h w x5):=hide (Y4.out.grown hg2 (fun b e=> .inl (by injection e with e;exact e.symm)));have S5:Hid (BB≤x5.heap.size):=hide (Nat.le_trans S4.out hg2.size);have cc:=BX5.out.cell (i:=2) rfl;have ff:=BX5.out.frozen 2;have QX5:Hid (Rw _ hq 162 [.bool true, .bool false, .bool false, .bool false, .bool false]):=hide ((hg2.block hq QX4.out.lt (fun e=>HQN.out.1 (by injection e))).trans QX4.out);clear hr2 hg2)
 obtain ⟨w5,hgg,hB,hZ,hR,hY,hS⟩:∃W,x5.setCell ⟨h,2,none⟩ (.int .u64 pv)=W∧Rw W h 95 [.int .u8 4, .int .u64 tx, .int .u64 pv, .int .i64 0, .int .i64 0, .slice none 0 0, .slice none 0 0, .int .u64 0, .slice none 0 0, .bool false]∧Rw W hz 95 [.int .u8 0, .int .u64 0, .int .u64 0, .int .i64 0, .int .i64 0, .slice none 0 0, .slice none 0 0, .int .u64 0, .slice none 0 0, .bool false]∧RdrAt w0 W g s5∧Only2 g h w W∧BB≤W.heap.size:=⟨_,rfl,BX5.out.set 2 _,ZX5.out.far (fun e=>HNE.out.2.2.1 e.symm) _,R5.out.same (Below.heap_setCell x5 ⟨h,2,none⟩ _ g (fun e=>HNE.out.1 e.symm)),Y5.out.set 2 _,Nat.le_trans S5.out (by simp [World.setCell])⟩
 rw [hgg]
 have QX5:=hide (hgg▸(QX5.out.far (p:=⟨h,2,none⟩) HQN.out.2 (.int .u64 pv)))
 have BX5:=hide hB
 have ZX5:=hide hZ
 have R5:=hide hR
 have Y5:=hide hY
 have S5:=hide hS
 clear hgg hB hZ hR hY hS cc ff
 clear KN
 clear q0 q1 q2 q3 q4
 have q0:=QX5.out.cell (i:=0) rfl
 have q1:=QX5.out.cell (i:=1) rfl
 have q2:=QX5.out.cell (i:=2) rfl
 have q3:=QX5.out.cell (i:=3) rfl
 have q4:=QX5.out.cell (i:=4) rfl
 have z0:=ZX5.out.cell (i:=0) rfl
 have z1:=ZX5.out.cell (i:=1) rfl
 have z2:=ZX5.out.cell (i:=2) rfl
 have z3:=ZX5.out.cell (i:=3) rfl
 have z4:=ZX5.out.cell (i:=4) rfl
 have z5:=ZX5.out.cell (i:=5) rfl
 have z6:=ZX5.out.cell (i:=6) rfl
 have z7:=ZX5.out.cell (i:=7) rfl
 have z8:=ZX5.out.cell (i:=8) rfl
 have z9:=ZX5.out.cell (i:=9) rfl
 have y0:=BX5.out.cell (i:=0) rfl
 have y1:=BX5.out.cell (i:=1) rfl
 have y2:=BX5.out.cell (i:=2) rfl
 have y3:=BX5.out.cell (i:=3) rfl
 have y4:=BX5.out.cell (i:=4) rfl
 have y5:=BX5.out.cell (i:=5) rfl
 have y6:=BX5.out.cell (i:=6) rfl
 have y7:=BX5.out.cell (i:=7) rfl
 have y8:=BX5.out.cell (i:=8) rfl
 have y9:=BX5.out.cell (i:=9) rfl
 have f0:=ZX5.out.frozen 0
 have f1:=ZX5.out.frozen 1
 have f2:=ZX5.out.frozen 2
 have f3:=ZX5.out.frozen 3
 have f4:=ZX5.out.frozen 4
 have f5:=ZX5.out.frozen 5
 have f6:=ZX5.out.frozen 6
 have f7:=ZX5.out.frozen 7
 have f8:=ZX5.out.frozen 8
 have f9:=ZX5.out.frozen 9
 go_wp2
 have ZZ:=((((((((((ZX5.out.set 0 (.int .u8 4)).set 1 (.int .u64 tx)).set 2 (.int .u64 pv)).set 3 (.int .i64 0)).set 4 (.int .i64 0)).set 5 (.slice none 0 0)).set 6 (.slice none 0 0)).set 7 (.int .u64 0)).set 8 (.slice none 0 0)).set 9 (.bool false))
 have HS10:=sets_only hz [(0, .int .u8 4),(1, .int .u64 tx),(2, .int .u64 pv),(3, .int .i64 0),(4, .int .i64 0),(5, .slice none 0 0),(6, .slice none 0 0),(7, .int .u64 0),(8, .slice none 0 0),(9, .bool false)] w5
 simp only [List.foldl_cons,List.foldl_nil] at HS10
 obtain ⟨wz,hwz⟩:∃wz,((((((((((w5).setCell ⟨hz,0,none⟩ (.int .u8 4)).setCell ⟨hz,1,none⟩ (.int .u64 tx)).setCell ⟨hz,2,none⟩ (.int .u64 pv)).setCell ⟨hz,3,none⟩ (.int .i64 0)).setCell ⟨hz,4,none⟩ (.int .i64 0)).setCell ⟨hz,5,none⟩ (.slice none 0 0)).setCell ⟨hz,6,none⟩ (.slice none 0 0)).setCell ⟨hz,7,none⟩ (.int .u64 0)).setCell ⟨hz,8,none⟩ (.slice none 0 0)).setCell ⟨hz,9,none⟩ (.bool false)=wz:=⟨_,rfl⟩
 rw [hwz] at HS10 ZZ ⊢
 obtain ⟨q1,q2,q3,q4,hsame⟩:=HS10
 clear hwz
 have e0:=ZZ.cell (i:=0) rfl
 have e1:=ZZ.cell (i:=1) rfl
 have e2:=ZZ.cell (i:=2) rfl
 have e3:=ZZ.cell (i:=3) rfl
 have e4:=ZZ.cell (i:=4) rfl
 have e5:=ZZ.cell (i:=5) rfl
 have e6:=ZZ.cell (i:=6) rfl
 have e7:=ZZ.cell (i:=7) rfl
 have e8:=ZZ.cell (i:=8) rfl
 have e9:=ZZ.cell (i:=9) rfl
 have HRD:rdRec st=(⟨4,tx,pv,0,0, [], [],0, [],false⟩,s5):=by
  simp [rdRec,rcdN,rcdB,rdD,HK.out,HS2.out,HU3.out,HS3.out,HU5.out,HS5.out,hpv,hch,hbf,hnx,hck]
 rw [HRD]
 have YG:w.grownBy wz (some g):=by
  have h1:=Y5.out.to1 HHW.out.2.1
  exact ⟨q1.trans h1.os,q2.trans h1.tape,q3.trans h1.output,Nat.le_trans h1.size (Nat.le_of_eq q4.symm),fun b hb hne=>(hsame b (by have:=HHW.out;omega)).trans (h1.block b hb hne)⟩
 refine bodyPost_ret (v:= .agg #[.int .u8 4, .int .u64 tx, .int .u64 pv, .int .i64 0, .int .i64 0, .slice none 0 0, .slice none 0 0, .int .u64 0, .slice none 0 0, .bool false]) (by simp [results,Tryz.results129,go_sem,e0,e1,e2,e3,e4,e5,e6,e7,e8,e9];try rfl) rfl ?_
 exact ⟨_,_,_,rfl,Own.nil _ _,Own.nil _ _,OwnDr.nil _ _,R5.out.same (hsame g (fun e=>HNE.out.2.1 e.symm)),YG,fun b hb=>by cases hb⟩
theorem record_5 (g:Nat) (st:List UInt8×Bool) (w0 w:World) (hx:Ext w0 w) (hg0:w0.heap.size≤g) (hr:RdrAt w0 w g st) (hl:st.1.length≤140737488351232) (hk:num (tk 1 st).1=5):
  Calls Tryz.prog 129 #[.pointer (some ⟨g,0,none⟩)] w (RecP w0 w g (rdRec st)):=by
 have HX:=hide hx
 have HG0:=hide hg0
 have HGL:=hide hr.lt
 have HK:=hide hk
 have HL0:=hide hl
 have R0:=hide hr
 have KP:=hide (fun (W:World)=>(show Calls Tryz.prog 122 #[.int .u8 5] W (fun e w' =>e= .returned (.tuple #[.agg #[.bool true, .bool false, .bool false, .bool false, .bool false], .bool true])∧Ext W w') from partsOf_any 5 W))
 clear hx hg0 hr hl hk
 go_enter Tryz.func129,Tryz.ntmps129
 go_upto_region 2 with fail
 obtain ⟨W1,hX1,hRz,hRh,hgg⟩:∃W1,Ext w W1∧Rw W1 w.heap.size 95 [.int .u8 0, .int .u64 0, .int .u64 0, .int .i64 0, .int .i64 0, .slice none 0 0, .slice none 0 0, .int .u64 0, .slice none 0 0, .bool false]∧Rw W1 (w.heap.size + 1) 95 [.int .u8 0, .int .u64 0, .int .u64 0, .int .i64 0, .int .i64 0, .slice none 0 0, .slice none 0 0, .int .u64 0, .slice none 0 0, .bool false]∧(w.alloc (.cells #[.int .u8 0, .int .u64 0, .int .u64 0, .int .i64 0, .int .i64 0, .slice none 0 0, .slice none 0 0, .int .u64 0, .slice none 0 0, .bool false] 95)).alloc (.cells #[.int .u8 0, .int .u64 0, .int .u64 0, .int .i64 0, .int .i64 0, .slice none 0 0, .slice none 0 0, .int .u64 0, .slice none 0 0, .bool false] 95)=W1:=⟨_,(Ext.alloc _ _).trans (Ext.alloc _ _),(Rw.new w 95 [.int .u8 0, .int .u64 0, .int .u64 0, .int .i64 0, .int .i64 0, .slice none 0 0, .slice none 0 0, .int .u64 0, .slice none 0 0, .bool false]).ext (Ext.alloc _ _),(by have h:=Rw.new (w.alloc (.cells #[.int .u8 0, .int .u64 0, .int .u64 0, .int .i64 0, .int .i64 0, .slice none 0 0, .slice none 0 0, .int .u64 0, .slice none 0 0, .bool false] 95)) 95 [.int .u8 0, .int .u64 0, .int .u64 0, .int .i64 0, .int .i64 0, .slice none 0 0, .slice none 0 0, .int .u64 0, .slice none 0 0, .bool false];rwa [show (w.alloc (.cells #[.int .u8 0, .int .u64 0, .int .u64 0, .int .i64 0, .int .i64 0, .slice none 0 0, .slice none 0 0, .int .u64 0, .slice none 0 0, .bool false] 95)).heap.size=w.heap.size + 1 by simp] at h),rfl⟩
 rw [hgg]
 obtain ⟨hz,HHZ⟩:∃hz,Hid (w.heap.size=hz):=⟨_,hide rfl⟩
 rw [HHZ.out] at hRz hRh ⊢
 obtain ⟨h,HHH⟩:∃h,Hid (hz + 1=h):=⟨_,hide rfl⟩
 rw [HHH.out] at hRh
 try rw [HHH.out]
 have BX1:=hide hRh
 have ZX1:=hide hRz
 have R1:=hide (R0.out.ext hX1)
 have Y1:Hid (Only2 g h w W1):=hide ((Only2.refl g h w).ext hX1)
 have HNE:Hid (h≠g∧hz≠g∧h≠hz∧hz < h):=hide (by have:=HGL.out;have:=HHZ.out;have:=HHH.out;omega)
 have HHW:Hid (w0.heap.size≤h∧w.heap.size≤h∧w.heap.size≤hz):=hide (by have:=HX.out.size;have:=HHZ.out;have:=HHH.out;omega)
 obtain ⟨BB,HBB⟩:∃BB,Hid (W1.heap.size=BB):=⟨_,hide rfl⟩
 have HBL:Hid (h < BB∧hz < BB∧g < BB∧w.heap.size≤BB):=hide (by rw [← HBB.out];exact ⟨BX1.out.lt,ZX1.out.lt,R1.out.lt,hX1.size⟩)
 have S1:Hid (BB≤W1.heap.size):=hide (by rw [HBB.out];exact Nat.le_refl _)
 clear hgg hX1 hRz hRh R0
 have KN:=hide (number_1 g st w0 W1 (Y1.out.ofExt HX.out HG0.out HHW.out.1) R1.out HL0.out)
 rw [HK.out] at KN
 obtain ⟨s2,HS2⟩:∃s,Hid ((tk 1 st).2=s):=⟨_,hide rfl⟩
 rw [HS2.out] at KN
 have HL2:Hid (s2.1.length≤140737488351232):=hide (by rw [← HS2.out];exact Nat.le_trans (tk_left 1 st) HL0.out)
 go_upto_region 3 with (go_at_call 139;(with_reducible refine KN.out.mono ?_);rintro e x2 ⟨_,rfl,rfl,hr2,hg2⟩;have R2:=hide hr2;have BX2:Hid (Rw x2 h 95 [.int .u8 0, .int .u64 0, .int .u64 0, .int .i64 0, .int .i64 0, .slice none 0 0, .slice none 0 0, .int .u64 0, .slice none 0 0, .bool false]):=hide ((hg2.block h BX1.out.lt (fun e=>HNE.out.1 (by injection e))).trans BX1.out);have ZX2:Hid (Rw x2 hz 95 [.int .u8 0, .int .u64 0, .int .u64 0, .int .i64 0, .int .i64 0, .slice none 0 0, .slice none 0 0, .int .u64 0, .slice none 0 0, .bool false]):=hide ((hg2.block hz ZX1.out.lt (fun e=>HNE.out.2.1 (by injection e))).trans ZX1.out);have Y2:Hid (Only2 g h w x2):=hide (Y1.out.grown hg2 (fun b e=> .inl (by injection e with e;exact e.symm)));have S2:Hid (BB≤x2.heap.size):=hide (Nat.le_trans S1.out hg2.size);have cc:=BX2.out.cell (i:=0) rfl;have ff:=BX2.out.frozen 0;clear hr2 hg2)
 obtain ⟨w2,hgg,hB,hZ,hR,hY,hS⟩:∃W,x2.setCell ⟨h,0,none⟩ (.int .u8 5)=W∧Rw W h 95 [.int .u8 5, .int .u64 0, .int .u64 0, .int .i64 0, .int .i64 0, .slice none 0 0, .slice none 0 0, .int .u64 0, .slice none 0 0, .bool false]∧Rw W hz 95 [.int .u8 0, .int .u64 0, .int .u64 0, .int .i64 0, .int .i64 0, .slice none 0 0, .slice none 0 0, .int .u64 0, .slice none 0 0, .bool false]∧RdrAt w0 W g s2∧Only2 g h w W∧BB≤W.heap.size:=⟨_,rfl,BX2.out.set 0 _,ZX2.out.far (fun e=>HNE.out.2.2.1 e.symm) _,R2.out.same (Below.heap_setCell x2 ⟨h,0,none⟩ _ g (fun e=>HNE.out.1 e.symm)),Y2.out.set 0 _,Nat.le_trans S2.out (by simp [World.setCell])⟩
 rw [hgg]
 have BX2:=hide hB
 have ZX2:=hide hZ
 have R2:=hide hR
 have Y2:=hide hY
 have S2:=hide hS
 clear hgg hB hZ hR hY hS cc ff
 clear KN
 have KN:=hide (number_8 g s2 w0 w2 (Y2.out.ofExt HX.out HG0.out HHW.out.1) R2.out HL2.out)
 obtain ⟨tx,HU3⟩:∃u,Hid (num (tk 8 s2).1=u):=⟨_,hide rfl⟩
 rw [HU3.out] at KN
 obtain ⟨s3,HS3⟩:∃s,Hid ((tk 8 s2).2=s):=⟨_,hide rfl⟩
 rw [HS3.out] at KN
 have HL3:Hid (s3.1.length≤140737488351232):=hide (by rw [← HS3.out];exact Nat.le_trans (tk_left 8 s2) HL2.out)
 go_upto_region 4 with (go_at_call 139;(with_reducible refine KN.out.mono ?_);rintro e x3 ⟨_,rfl,rfl,hr2,hg2⟩;have R3:=hide hr2;have BX3:Hid (Rw x3 h 95 [.int .u8 5, .int .u64 0, .int .u64 0, .int .i64 0, .int .i64 0, .slice none 0 0, .slice none 0 0, .int .u64 0, .slice none 0 0, .bool false]):=hide ((hg2.block h BX2.out.lt (fun e=>HNE.out.1 (by injection e))).trans BX2.out);have ZX3:Hid (Rw x3 hz 95 [.int .u8 0, .int .u64 0, .int .u64 0, .int .i64 0, .int .i64 0, .slice none 0 0, .slice none 0 0, .int .u64 0, .slice none 0 0, .bool false]):=hide ((hg2.block hz ZX2.out.lt (fun e=>HNE.out.2.1 (by injection e))).trans ZX2.out);have Y3:Hid (Only2 g h w x3):=hide (Y2.out.grown hg2 (fun b e=> .inl (by injection e with e;exact e.symm)));have S3:Hid (BB≤x3.heap.size):=hide (Nat.le_trans S2.out hg2.size);have cc:=BX3.out.cell (i:=1) rfl;have ff:=BX3.out.frozen 1;clear hr2 hg2)
 obtain ⟨w3,hgg,hB,hZ,hR,hY,hS⟩:∃W,x3.setCell ⟨h,1,none⟩ (.int .u64 tx)=W∧Rw W h 95 [.int .u8 5, .int .u64 tx, .int .u64 0, .int .i64 0, .int .i64 0, .slice none 0 0, .slice none 0 0, .int .u64 0, .slice none 0 0, .bool false]∧Rw W hz 95 [.int .u8 0, .int .u64 0, .int .u64 0, .int .i64 0, .int .i64 0, .slice none 0 0, .slice none 0 0, .int .u64 0, .slice none 0 0, .bool false]∧RdrAt w0 W g s3∧Only2 g h w W∧BB≤W.heap.size:=⟨_,rfl,BX3.out.set 1 _,ZX3.out.far (fun e=>HNE.out.2.2.1 e.symm) _,R3.out.same (Below.heap_setCell x3 ⟨h,1,none⟩ _ g (fun e=>HNE.out.1 e.symm)),Y3.out.set 1 _,Nat.le_trans S3.out (by simp [World.setCell])⟩
 rw [hgg]
 have BX3:=hide hB
 have ZX3:=hide hZ
 have R3:=hide hR
 have Y3:=hide hY
 have S3:=hide hS
 clear hgg hB hZ hR hY hS cc ff
 clear KN
 have cc:=BX3.out.cell (i:=0) rfl
 go_upto_region 5 with (go_at_call 122;(with_reducible refine (KP.out _).mono ?_);rintro e xp ⟨rfl,hxp⟩;have XP:=hide hxp;clear hxp)
 clear cc KP
 obtain ⟨w4,hXQ,hQ,hgg⟩:∃W,Ext w3 W∧Rw W xp.heap.size 162 [.bool true, .bool false, .bool false, .bool false, .bool false]∧xp.alloc (.cells #[.bool true, .bool false, .bool false, .bool false, .bool false] 162)=W:=⟨_,XP.out.trans (Ext.alloc _ _),Rw.new _ _ _,rfl⟩
 rw [hgg]
 obtain ⟨hq,HHQ⟩:∃hq,Hid (xp.heap.size=hq):=⟨_,hide rfl⟩
 rw [HHQ.out] at hQ ⊢
 have BX4:=hide (BX3.out.ext hXQ)
 have ZX4:=hide (ZX3.out.ext hXQ)
 have R4:=hide (R3.out.ext hXQ)
 have Y4:=hide (Y3.out.ext hXQ)
 have S4:Hid (BB≤w4.heap.size):=hide (Nat.le_trans S3.out hXQ.size)
 have QX4:=hide hQ
 have HQN:Hid (hq≠g∧hq≠h):=hide (by have h1:BB≤xp.heap.size:=Nat.le_trans S3.out XP.out.size;have:=HHQ.out;have:=HBL.out;omega)
 clear hgg hXQ hQ
 have q0:=QX4.out.cell (i:=0) rfl
 have q1:=QX4.out.cell (i:=1) rfl
 have q2:=QX4.out.cell (i:=2) rfl
 have q3:=QX4.out.cell (i:=3) rfl
 have q4:=QX4.out.cell (i:=4) rfl
 have KN:=hide (number_8 g s3 w0 w4 (Y4.out.ofExt HX.out HG0.out HHW.out.1) R4.out HL3.out)
 obtain ⟨pv,HU5⟩:∃u,Hid (num (tk 8 s3).1=u):=⟨_,hide rfl⟩
 rw [HU5.out] at KN
 obtain ⟨s5,HS5⟩:∃s,Hid ((tk 8 s3).2=s):=⟨_,hide rfl⟩
 rw [HS5.out] at KN
 have HL5:Hid (s5.1.length≤140737488351232):=hide (by rw [← HS5.out];exact Nat.le_trans (tk_left 8 s3) HL3.out)
 go_upto_region 7 with (go_at_call 139;(with_reducible refine KN.out.mono ?_);rintro e x5 ⟨_,rfl,rfl,hr2,hg2⟩;have R5:=hide hr2;have BX5:Hid (Rw x5 h 95 [.int .u8 5, .int .u64 tx, .int .u64 0, .int .i64 0, .int .i64 0, .slice none 0 0, .slice none 0 0, .int .u64 0, .slice none 0 0, .bool false]):=hide ((hg2.block h BX4.out.lt (fun e=>HNE.out.1 (by injection e))).trans BX4.out);have ZX5:Hid (Rw x5 hz 95 [.int .u8 0, .int .u64 0, .int .u64 0, .int .i64 0, .int .i64 0, .slice none 0 0, .slice none 0 0, .int .u64 0, .slice none 0 0, .bool false]):=hide ((hg2.block hz ZX4.out.lt (fun e=>HNE.out.2.1 (by injection e))).trans ZX4.out);have Y5:Hid (Only2 g h w x5):=hide (Y4.out.grown hg2 (fun b e=> .inl (by injection e with e;exact e.symm)));have S5:Hid (BB≤x5.heap.size):=hide (Nat.le_trans S4.out hg2.size);have cc:=BX5.out.cell (i:=2) rfl;have ff:=BX5.out.frozen 2;have QX5:Hid (Rw _ hq 162 [.bool true, .bool false, .bool false, .bool false, .bool false]):=hide ((hg2.block hq QX4.out.lt (fun e=>HQN.out.1 (by injection e))).trans QX4.out);clear hr2 hg2)
 obtain ⟨w5,hgg,hB,hZ,hR,hY,hS⟩:∃W,x5.setCell ⟨h,2,none⟩ (.int .u64 pv)=W∧Rw W h 95 [.int .u8 5, .int .u64 tx, .int .u64 pv, .int .i64 0, .int .i64 0, .slice none 0 0, .slice none 0 0, .int .u64 0, .slice none 0 0, .bool false]∧Rw W hz 95 [.int .u8 0, .int .u64 0, .int .u64 0, .int .i64 0, .int .i64 0, .slice none 0 0, .slice none 0 0, .int .u64 0, .slice none 0 0, .bool false]∧RdrAt w0 W g s5∧Only2 g h w W∧BB≤W.heap.size:=⟨_,rfl,BX5.out.set 2 _,ZX5.out.far (fun e=>HNE.out.2.2.1 e.symm) _,R5.out.same (Below.heap_setCell x5 ⟨h,2,none⟩ _ g (fun e=>HNE.out.1 e.symm)),Y5.out.set 2 _,Nat.le_trans S5.out (by simp [World.setCell])⟩
 rw [hgg]
 have QX5:=hide (hgg▸(QX5.out.far (p:=⟨h,2,none⟩) HQN.out.2 (.int .u64 pv)))
 have BX5:=hide hB
 have ZX5:=hide hZ
 have R5:=hide hR
 have Y5:=hide hY
 have S5:=hide hS
 clear hgg hB hZ hR hY hS cc ff
 clear KN
 clear q0 q1 q2 q3 q4
 have q0:=QX5.out.cell (i:=0) rfl
 have q1:=QX5.out.cell (i:=1) rfl
 have q2:=QX5.out.cell (i:=2) rfl
 have q3:=QX5.out.cell (i:=3) rfl
 have q4:=QX5.out.cell (i:=4) rfl
 have z0:=ZX5.out.cell (i:=0) rfl
 have z1:=ZX5.out.cell (i:=1) rfl
 have z2:=ZX5.out.cell (i:=2) rfl
 have z3:=ZX5.out.cell (i:=3) rfl
 have z4:=ZX5.out.cell (i:=4) rfl
 have z5:=ZX5.out.cell (i:=5) rfl
 have z6:=ZX5.out.cell (i:=6) rfl
 have z7:=ZX5.out.cell (i:=7) rfl
 have z8:=ZX5.out.cell (i:=8) rfl
 have z9:=ZX5.out.cell (i:=9) rfl
 have y0:=BX5.out.cell (i:=0) rfl
 have y1:=BX5.out.cell (i:=1) rfl
 have y2:=BX5.out.cell (i:=2) rfl
 have y3:=BX5.out.cell (i:=3) rfl
 have y4:=BX5.out.cell (i:=4) rfl
 have y5:=BX5.out.cell (i:=5) rfl
 have y6:=BX5.out.cell (i:=6) rfl
 have y7:=BX5.out.cell (i:=7) rfl
 have y8:=BX5.out.cell (i:=8) rfl
 have y9:=BX5.out.cell (i:=9) rfl
 have f0:=ZX5.out.frozen 0
 have f1:=ZX5.out.frozen 1
 have f2:=ZX5.out.frozen 2
 have f3:=ZX5.out.frozen 3
 have f4:=ZX5.out.frozen 4
 have f5:=ZX5.out.frozen 5
 have f6:=ZX5.out.frozen 6
 have f7:=ZX5.out.frozen 7
 have f8:=ZX5.out.frozen 8
 have f9:=ZX5.out.frozen 9
 go_wp2
 have ZZ:=((((((((((ZX5.out.set 0 (.int .u8 5)).set 1 (.int .u64 tx)).set 2 (.int .u64 pv)).set 3 (.int .i64 0)).set 4 (.int .i64 0)).set 5 (.slice none 0 0)).set 6 (.slice none 0 0)).set 7 (.int .u64 0)).set 8 (.slice none 0 0)).set 9 (.bool false))
 have HS10:=sets_only hz [(0, .int .u8 5),(1, .int .u64 tx),(2, .int .u64 pv),(3, .int .i64 0),(4, .int .i64 0),(5, .slice none 0 0),(6, .slice none 0 0),(7, .int .u64 0),(8, .slice none 0 0),(9, .bool false)] w5
 simp only [List.foldl_cons,List.foldl_nil] at HS10
 obtain ⟨wz,hwz⟩:∃wz,((((((((((w5).setCell ⟨hz,0,none⟩ (.int .u8 5)).setCell ⟨hz,1,none⟩ (.int .u64 tx)).setCell ⟨hz,2,none⟩ (.int .u64 pv)).setCell ⟨hz,3,none⟩ (.int .i64 0)).setCell ⟨hz,4,none⟩ (.int .i64 0)).setCell ⟨hz,5,none⟩ (.slice none 0 0)).setCell ⟨hz,6,none⟩ (.slice none 0 0)).setCell ⟨hz,7,none⟩ (.int .u64 0)).setCell ⟨hz,8,none⟩ (.slice none 0 0)).setCell ⟨hz,9,none⟩ (.bool false)=wz:=⟨_,rfl⟩
 rw [hwz] at HS10 ZZ ⊢
 obtain ⟨q1,q2,q3,q4,hsame⟩:=HS10
 clear hwz
 have e0:=ZZ.cell (i:=0) rfl
 have e1:=ZZ.cell (i:=1) rfl
 have e2:=ZZ.cell (i:=2) rfl
 have e3:=ZZ.cell (i:=3) rfl
 have e4:=ZZ.cell (i:=4) rfl
 have e5:=ZZ.cell (i:=5) rfl
 have e6:=ZZ.cell (i:=6) rfl
 have e7:=ZZ.cell (i:=7) rfl
 have e8:=ZZ.cell (i:=8) rfl
 have e9:=ZZ.cell (i:=9) rfl
 have HRD:rdRec st=(⟨5,tx,pv,0,0, [], [],0, [],false⟩,s5):=by
  simp [rdRec,rcdN,rcdB,rdD,HK.out,HS2.out,HU3.out,HS3.out,HU5.out,HS5.out,hpv,hch,hbf,hnx,hck]
 rw [HRD]
 have YG:w.grownBy wz (some g):=by
  have h1:=Y5.out.to1 HHW.out.2.1
  exact ⟨q1.trans h1.os,q2.trans h1.tape,q3.trans h1.output,Nat.le_trans h1.size (Nat.le_of_eq q4.symm),fun b hb hne=>(hsame b (by have:=HHW.out;omega)).trans (h1.block b hb hne)⟩
 refine bodyPost_ret (v:= .agg #[.int .u8 5, .int .u64 tx, .int .u64 pv, .int .i64 0, .int .i64 0, .slice none 0 0, .slice none 0 0, .int .u64 0, .slice none 0 0, .bool false]) (by simp [results,Tryz.results129,go_sem,e0,e1,e2,e3,e4,e5,e6,e7,e8,e9];try rfl) rfl ?_
 exact ⟨_,_,_,rfl,Own.nil _ _,Own.nil _ _,OwnDr.nil _ _,R5.out.same (hsame g (fun e=>HNE.out.2.1 e.symm)),YG,fun b hb=>by cases hb⟩
theorem record_6 (g:Nat) (st:List UInt8×Bool) (w0 w:World) (hx:Ext w0 w) (hg0:w0.heap.size≤g) (hr:RdrAt w0 w g st) (hl:st.1.length≤140737488351232) (hk:num (tk 1 st).1=6):
  Calls Tryz.prog 129 #[.pointer (some ⟨g,0,none⟩)] w (RecP w0 w g (rdRec st)):=by
 have HX:=hide hx
 have HG0:=hide hg0
 have HGL:=hide hr.lt
 have HK:=hide hk
 have HL0:=hide hl
 have R0:=hide hr
 have KP:=hide (fun (W:World)=>(show Calls Tryz.prog 122 #[.int .u8 6] W (fun e w' =>e= .returned (.tuple #[.agg #[.bool true, .bool false, .bool false, .bool false, .bool true], .bool true])∧Ext W w') from partsOf_any 6 W))
 clear hx hg0 hr hl hk
 go_enter Tryz.func129,Tryz.ntmps129
 go_upto_region 2 with fail
 obtain ⟨W1,hX1,hRz,hRh,hgg⟩:∃W1,Ext w W1∧Rw W1 w.heap.size 95 [.int .u8 0, .int .u64 0, .int .u64 0, .int .i64 0, .int .i64 0, .slice none 0 0, .slice none 0 0, .int .u64 0, .slice none 0 0, .bool false]∧Rw W1 (w.heap.size + 1) 95 [.int .u8 0, .int .u64 0, .int .u64 0, .int .i64 0, .int .i64 0, .slice none 0 0, .slice none 0 0, .int .u64 0, .slice none 0 0, .bool false]∧(w.alloc (.cells #[.int .u8 0, .int .u64 0, .int .u64 0, .int .i64 0, .int .i64 0, .slice none 0 0, .slice none 0 0, .int .u64 0, .slice none 0 0, .bool false] 95)).alloc (.cells #[.int .u8 0, .int .u64 0, .int .u64 0, .int .i64 0, .int .i64 0, .slice none 0 0, .slice none 0 0, .int .u64 0, .slice none 0 0, .bool false] 95)=W1:=⟨_,(Ext.alloc _ _).trans (Ext.alloc _ _),(Rw.new w 95 [.int .u8 0, .int .u64 0, .int .u64 0, .int .i64 0, .int .i64 0, .slice none 0 0, .slice none 0 0, .int .u64 0, .slice none 0 0, .bool false]).ext (Ext.alloc _ _),(by have h:=Rw.new (w.alloc (.cells #[.int .u8 0, .int .u64 0, .int .u64 0, .int .i64 0, .int .i64 0, .slice none 0 0, .slice none 0 0, .int .u64 0, .slice none 0 0, .bool false] 95)) 95 [.int .u8 0, .int .u64 0, .int .u64 0, .int .i64 0, .int .i64 0, .slice none 0 0, .slice none 0 0, .int .u64 0, .slice none 0 0, .bool false];rwa [show (w.alloc (.cells #[.int .u8 0, .int .u64 0, .int .u64 0, .int .i64 0, .int .i64 0, .slice none 0 0, .slice none 0 0, .int .u64 0, .slice none 0 0, .bool false] 95)).heap.size=w.heap.size + 1 by simp] at h),rfl⟩
 rw [hgg]
 obtain ⟨hz,HHZ⟩:∃hz,Hid (w.heap.size=hz):=⟨_,hide rfl⟩
 rw [HHZ.out] at hRz hRh ⊢
 obtain ⟨h,HHH⟩:∃h,Hid (hz + 1=h):=⟨_,hide rfl⟩
 rw [HHH.out] at hRh
 try rw [HHH.out]
 have BX1:=hide hRh
 have ZX1:=hide hRz
 have R1:=hide (R0.out.ext hX1)
 have Y1:Hid (Only2 g h w W1):=hide ((Only2.refl g h w).ext hX1)
 have HNE:Hid (h≠g∧hz≠g∧h≠hz∧hz < h):=hide (by have:=HGL.out;have:=HHZ.out;have:=HHH.out;omega)
 have HHW:Hid (w0.heap.size≤h∧w.heap.size≤h∧w.heap.size≤hz):=hide (by have:=HX.out.size;have:=HHZ.out;have:=HHH.out;omega)
 obtain ⟨BB,HBB⟩:∃BB,Hid (W1.heap.size=BB):=⟨_,hide rfl⟩
 have HBL:Hid (h < BB∧hz < BB∧g < BB∧w.heap.size≤BB):=hide (by rw [← HBB.out];exact ⟨BX1.out.lt,ZX1.out.lt,R1.out.lt,hX1.size⟩)
 have S1:Hid (BB≤W1.heap.size):=hide (by rw [HBB.out];exact Nat.le_refl _)
 clear hgg hX1 hRz hRh R0
 have KN:=hide (number_1 g st w0 W1 (Y1.out.ofExt HX.out HG0.out HHW.out.1) R1.out HL0.out)
 rw [HK.out] at KN
 obtain ⟨s2,HS2⟩:∃s,Hid ((tk 1 st).2=s):=⟨_,hide rfl⟩
 rw [HS2.out] at KN
 have HL2:Hid (s2.1.length≤140737488351232):=hide (by rw [← HS2.out];exact Nat.le_trans (tk_left 1 st) HL0.out)
 go_upto_region 3 with (go_at_call 139;(with_reducible refine KN.out.mono ?_);rintro e x2 ⟨_,rfl,rfl,hr2,hg2⟩;have R2:=hide hr2;have BX2:Hid (Rw x2 h 95 [.int .u8 0, .int .u64 0, .int .u64 0, .int .i64 0, .int .i64 0, .slice none 0 0, .slice none 0 0, .int .u64 0, .slice none 0 0, .bool false]):=hide ((hg2.block h BX1.out.lt (fun e=>HNE.out.1 (by injection e))).trans BX1.out);have ZX2:Hid (Rw x2 hz 95 [.int .u8 0, .int .u64 0, .int .u64 0, .int .i64 0, .int .i64 0, .slice none 0 0, .slice none 0 0, .int .u64 0, .slice none 0 0, .bool false]):=hide ((hg2.block hz ZX1.out.lt (fun e=>HNE.out.2.1 (by injection e))).trans ZX1.out);have Y2:Hid (Only2 g h w x2):=hide (Y1.out.grown hg2 (fun b e=> .inl (by injection e with e;exact e.symm)));have S2:Hid (BB≤x2.heap.size):=hide (Nat.le_trans S1.out hg2.size);have cc:=BX2.out.cell (i:=0) rfl;have ff:=BX2.out.frozen 0;clear hr2 hg2)
 obtain ⟨w2,hgg,hB,hZ,hR,hY,hS⟩:∃W,x2.setCell ⟨h,0,none⟩ (.int .u8 6)=W∧Rw W h 95 [.int .u8 6, .int .u64 0, .int .u64 0, .int .i64 0, .int .i64 0, .slice none 0 0, .slice none 0 0, .int .u64 0, .slice none 0 0, .bool false]∧Rw W hz 95 [.int .u8 0, .int .u64 0, .int .u64 0, .int .i64 0, .int .i64 0, .slice none 0 0, .slice none 0 0, .int .u64 0, .slice none 0 0, .bool false]∧RdrAt w0 W g s2∧Only2 g h w W∧BB≤W.heap.size:=⟨_,rfl,BX2.out.set 0 _,ZX2.out.far (fun e=>HNE.out.2.2.1 e.symm) _,R2.out.same (Below.heap_setCell x2 ⟨h,0,none⟩ _ g (fun e=>HNE.out.1 e.symm)),Y2.out.set 0 _,Nat.le_trans S2.out (by simp [World.setCell])⟩
 rw [hgg]
 have BX2:=hide hB
 have ZX2:=hide hZ
 have R2:=hide hR
 have Y2:=hide hY
 have S2:=hide hS
 clear hgg hB hZ hR hY hS cc ff
 clear KN
 have KN:=hide (number_8 g s2 w0 w2 (Y2.out.ofExt HX.out HG0.out HHW.out.1) R2.out HL2.out)
 obtain ⟨tx,HU3⟩:∃u,Hid (num (tk 8 s2).1=u):=⟨_,hide rfl⟩
 rw [HU3.out] at KN
 obtain ⟨s3,HS3⟩:∃s,Hid ((tk 8 s2).2=s):=⟨_,hide rfl⟩
 rw [HS3.out] at KN
 have HL3:Hid (s3.1.length≤140737488351232):=hide (by rw [← HS3.out];exact Nat.le_trans (tk_left 8 s2) HL2.out)
 go_upto_region 4 with (go_at_call 139;(with_reducible refine KN.out.mono ?_);rintro e x3 ⟨_,rfl,rfl,hr2,hg2⟩;have R3:=hide hr2;have BX3:Hid (Rw x3 h 95 [.int .u8 6, .int .u64 0, .int .u64 0, .int .i64 0, .int .i64 0, .slice none 0 0, .slice none 0 0, .int .u64 0, .slice none 0 0, .bool false]):=hide ((hg2.block h BX2.out.lt (fun e=>HNE.out.1 (by injection e))).trans BX2.out);have ZX3:Hid (Rw x3 hz 95 [.int .u8 0, .int .u64 0, .int .u64 0, .int .i64 0, .int .i64 0, .slice none 0 0, .slice none 0 0, .int .u64 0, .slice none 0 0, .bool false]):=hide ((hg2.block hz ZX2.out.lt (fun e=>HNE.out.2.1 (by injection e))).trans ZX2.out);have Y3:Hid (Only2 g h w x3):=hide (Y2.out.grown hg2 (fun b e=> .inl (by injection e with e;exact e.symm)));have S3:Hid (BB≤x3.heap.size):=hide (Nat.le_trans S2.out hg2.size);have cc:=BX3.out.cell (i:=1) rfl;have ff:=BX3.out.frozen 1;clear hr2 hg2)
 obtain ⟨w3,hgg,hB,hZ,hR,hY,hS⟩:∃W,x3.setCell ⟨h,1,none⟩ (.int .u64 tx)=W∧Rw W h 95 [.int .u8 6, .int .u64 tx, .int .u64 0, .int .i64 0, .int .i64 0, .slice none 0 0, .slice none 0 0, .int .u64 0, .slice none 0 0, .bool false]∧Rw W hz 95 [.int .u8 0, .int .u64 0, .int .u64 0, .int .i64 0, .int .i64 0, .slice none 0 0, .slice none 0 0, .int .u64 0, .slice none 0 0, .bool false]∧RdrAt w0 W g s3∧Only2 g h w W∧BB≤W.heap.size:=⟨_,rfl,BX3.out.set 1 _,ZX3.out.far (fun e=>HNE.out.2.2.1 e.symm) _,R3.out.same (Below.heap_setCell x3 ⟨h,1,none⟩ _ g (fun e=>HNE.out.1 e.symm)),Y3.out.set 1 _,Nat.le_trans S3.out (by simp [World.setCell])⟩
 rw [hgg]
 have BX3:=hide hB
 have ZX3:=hide hZ
 have R3:=hide hR
 have Y3:=hide hY
 have S3:=hide hS
 clear hgg hB hZ hR hY hS cc ff
 clear KN
 have cc:=BX3.out.cell (i:=0) rfl
 go_upto_region 5 with (go_at_call 122;(with_reducible refine (KP.out _).mono ?_);rintro e xp ⟨rfl,hxp⟩;have XP:=hide hxp;clear hxp)
 clear cc KP
 obtain ⟨w4,hXQ,hQ,hgg⟩:∃W,Ext w3 W∧Rw W xp.heap.size 162 [.bool true, .bool false, .bool false, .bool false, .bool true]∧xp.alloc (.cells #[.bool true, .bool false, .bool false, .bool false, .bool true] 162)=W:=⟨_,XP.out.trans (Ext.alloc _ _),Rw.new _ _ _,rfl⟩
 rw [hgg]
 obtain ⟨hq,HHQ⟩:∃hq,Hid (xp.heap.size=hq):=⟨_,hide rfl⟩
 rw [HHQ.out] at hQ ⊢
 have BX4:=hide (BX3.out.ext hXQ)
 have ZX4:=hide (ZX3.out.ext hXQ)
 have R4:=hide (R3.out.ext hXQ)
 have Y4:=hide (Y3.out.ext hXQ)
 have S4:Hid (BB≤w4.heap.size):=hide (Nat.le_trans S3.out hXQ.size)
 have QX4:=hide hQ
 have HQN:Hid (hq≠g∧hq≠h):=hide (by have h1:BB≤xp.heap.size:=Nat.le_trans S3.out XP.out.size;have:=HHQ.out;have:=HBL.out;omega)
 clear hgg hXQ hQ
 have q0:=QX4.out.cell (i:=0) rfl
 have q1:=QX4.out.cell (i:=1) rfl
 have q2:=QX4.out.cell (i:=2) rfl
 have q3:=QX4.out.cell (i:=3) rfl
 have q4:=QX4.out.cell (i:=4) rfl
 have KN:=hide (number_8 g s3 w0 w4 (Y4.out.ofExt HX.out HG0.out HHW.out.1) R4.out HL3.out)
 obtain ⟨pv,HU5⟩:∃u,Hid (num (tk 8 s3).1=u):=⟨_,hide rfl⟩
 rw [HU5.out] at KN
 obtain ⟨s5,HS5⟩:∃s,Hid ((tk 8 s3).2=s):=⟨_,hide rfl⟩
 rw [HS5.out] at KN
 have HL5:Hid (s5.1.length≤140737488351232):=hide (by rw [← HS5.out];exact Nat.le_trans (tk_left 8 s3) HL3.out)
 go_upto_region 7 with (go_at_call 139;(with_reducible refine KN.out.mono ?_);rintro e x5 ⟨_,rfl,rfl,hr2,hg2⟩;have R5:=hide hr2;have BX5:Hid (Rw x5 h 95 [.int .u8 6, .int .u64 tx, .int .u64 0, .int .i64 0, .int .i64 0, .slice none 0 0, .slice none 0 0, .int .u64 0, .slice none 0 0, .bool false]):=hide ((hg2.block h BX4.out.lt (fun e=>HNE.out.1 (by injection e))).trans BX4.out);have ZX5:Hid (Rw x5 hz 95 [.int .u8 0, .int .u64 0, .int .u64 0, .int .i64 0, .int .i64 0, .slice none 0 0, .slice none 0 0, .int .u64 0, .slice none 0 0, .bool false]):=hide ((hg2.block hz ZX4.out.lt (fun e=>HNE.out.2.1 (by injection e))).trans ZX4.out);have Y5:Hid (Only2 g h w x5):=hide (Y4.out.grown hg2 (fun b e=> .inl (by injection e with e;exact e.symm)));have S5:Hid (BB≤x5.heap.size):=hide (Nat.le_trans S4.out hg2.size);have cc:=BX5.out.cell (i:=2) rfl;have ff:=BX5.out.frozen 2;have QX5:Hid (Rw _ hq 162 [.bool true, .bool false, .bool false, .bool false, .bool true]):=hide ((hg2.block hq QX4.out.lt (fun e=>HQN.out.1 (by injection e))).trans QX4.out);clear hr2 hg2)
 obtain ⟨w5,hgg,hB,hZ,hR,hY,hS⟩:∃W,x5.setCell ⟨h,2,none⟩ (.int .u64 pv)=W∧Rw W h 95 [.int .u8 6, .int .u64 tx, .int .u64 pv, .int .i64 0, .int .i64 0, .slice none 0 0, .slice none 0 0, .int .u64 0, .slice none 0 0, .bool false]∧Rw W hz 95 [.int .u8 0, .int .u64 0, .int .u64 0, .int .i64 0, .int .i64 0, .slice none 0 0, .slice none 0 0, .int .u64 0, .slice none 0 0, .bool false]∧RdrAt w0 W g s5∧Only2 g h w W∧BB≤W.heap.size:=⟨_,rfl,BX5.out.set 2 _,ZX5.out.far (fun e=>HNE.out.2.2.1 e.symm) _,R5.out.same (Below.heap_setCell x5 ⟨h,2,none⟩ _ g (fun e=>HNE.out.1 e.symm)),Y5.out.set 2 _,Nat.le_trans S5.out (by simp [World.setCell])⟩
 rw [hgg]
 have QX5:=hide (hgg▸(QX5.out.far (p:=⟨h,2,none⟩) HQN.out.2 (.int .u64 pv)))
 have BX5:=hide hB
 have ZX5:=hide hZ
 have R5:=hide hR
 have Y5:=hide hY
 have S5:=hide hS
 clear hgg hB hZ hR hY hS cc ff
 clear KN
 clear q0 q1 q2 q3 q4
 have q0:=QX5.out.cell (i:=0) rfl
 have q1:=QX5.out.cell (i:=1) rfl
 have q2:=QX5.out.cell (i:=2) rfl
 have q3:=QX5.out.cell (i:=3) rfl
 have q4:=QX5.out.cell (i:=4) rfl
 obtain ⟨q,HQ⟩:∃u:Nat,Hid (num (tk 1 s5).1=(u:Int)):=by
  obtain ⟨u,hu⟩:=Int.eq_ofNat_of_zero_le (num_lt 1 s5).1
  exact ⟨u,hide hu⟩
 have KC:=hide (check_any g h s5 6 tx pv 0 0 0 (.slice none 0 0) (.slice none 0 0) false w0 w5 (Y5.out.ofExt HX.out HG0.out HHW.out.1) HG0.out HHW.out.1 R5.out HL5.out BX5.out q HQ.out)
 obtain ⟨op,HOP⟩:∃op,Hid (((q:Int) % 2==1)=op):=⟨_,hide rfl⟩
 obtain ⟨dl,HDL⟩:∃dl,Hid ((dirR (q / 2) (tk 1 s5).2).1=dl):=⟨_,hide rfl⟩
 obtain ⟨sf,HSF⟩:∃s,Hid ((dirR (q / 2) (tk 1 s5).2).2=s):=⟨_,hide rfl⟩
 rw [HOP.out,HDL.out,HSF.out] at KC
 go_upto_region 18 with (go_at_call 141;(with_reducible refine KC.out.mono ?_);rintro e wf ⟨rfl,v8,hB,hD,hR,hY⟩;have BF:=hide hB;have ZF:Hid (Rw wf hz 95 [.int .u8 0, .int .u64 0, .int .u64 0, .int .i64 0, .int .i64 0, .slice none 0 0, .slice none 0 0, .int .u64 0, .slice none 0 0, .bool false]):=hide ((hY.block hz ZX5.out.lt HNE.out.2.1 (fun e=>HNE.out.2.2.1 e.symm)).trans ZX5.out);have DF:=hide hD;have RF:=hide hR;have YF:Hid (Only2 g h w wf):=hide ⟨hY.os.trans Y5.out.os,hY.tape.trans Y5.out.tape,hY.output.trans Y5.out.output,Nat.le_trans Y5.out.size hY.size,fun b hb h1 h2=>(hY.block b (Nat.lt_of_lt_of_le hb Y5.out.size) h1 h2).trans (Y5.out.block b hb h1 h2)⟩;have DV:=hD.slice;clear hB hD hR hY)
 obtain ⟨AV8,cv8,hv8,-,-⟩:=DV
 subst hv8
 clear KC
 have z0:=ZF.out.cell (i:=0) rfl
 have z1:=ZF.out.cell (i:=1) rfl
 have z2:=ZF.out.cell (i:=2) rfl
 have z3:=ZF.out.cell (i:=3) rfl
 have z4:=ZF.out.cell (i:=4) rfl
 have z5:=ZF.out.cell (i:=5) rfl
 have z6:=ZF.out.cell (i:=6) rfl
 have z7:=ZF.out.cell (i:=7) rfl
 have z8:=ZF.out.cell (i:=8) rfl
 have z9:=ZF.out.cell (i:=9) rfl
 have y0:=BF.out.cell (i:=0) rfl
 have y1:=BF.out.cell (i:=1) rfl
 have y2:=BF.out.cell (i:=2) rfl
 have y3:=BF.out.cell (i:=3) rfl
 have y4:=BF.out.cell (i:=4) rfl
 have y5:=BF.out.cell (i:=5) rfl
 have y6:=BF.out.cell (i:=6) rfl
 have y7:=BF.out.cell (i:=7) rfl
 have y8:=BF.out.cell (i:=8) rfl
 have y9:=BF.out.cell (i:=9) rfl
 have f0:=ZF.out.frozen 0
 have f1:=ZF.out.frozen 1
 have f2:=ZF.out.frozen 2
 have f3:=ZF.out.frozen 3
 have f4:=ZF.out.frozen 4
 have f5:=ZF.out.frozen 5
 have f6:=ZF.out.frozen 6
 have f7:=ZF.out.frozen 7
 have f8:=ZF.out.frozen 8
 have f9:=ZF.out.frozen 9
 go_wp2
 have ZZ:=((((((((((ZF.out.set 0 (.int .u8 6)).set 1 (.int .u64 tx)).set 2 (.int .u64 pv)).set 3 (.int .i64 0)).set 4 (.int .i64 0)).set 5 (.slice none 0 0)).set 6 (.slice none 0 0)).set 7 (.int .u64 0)).set 8 (.slice AV8 dl.length cv8)).set 9 (.bool op))
 have HS10:=sets_only hz [(0, .int .u8 6),(1, .int .u64 tx),(2, .int .u64 pv),(3, .int .i64 0),(4, .int .i64 0),(5, .slice none 0 0),(6, .slice none 0 0),(7, .int .u64 0),(8, .slice AV8 dl.length cv8),(9, .bool op)] wf
 simp only [List.foldl_cons,List.foldl_nil] at HS10
 obtain ⟨wz,hwz⟩:∃wz,((((((((((wf).setCell ⟨hz,0,none⟩ (.int .u8 6)).setCell ⟨hz,1,none⟩ (.int .u64 tx)).setCell ⟨hz,2,none⟩ (.int .u64 pv)).setCell ⟨hz,3,none⟩ (.int .i64 0)).setCell ⟨hz,4,none⟩ (.int .i64 0)).setCell ⟨hz,5,none⟩ (.slice none 0 0)).setCell ⟨hz,6,none⟩ (.slice none 0 0)).setCell ⟨hz,7,none⟩ (.int .u64 0)).setCell ⟨hz,8,none⟩ (.slice AV8 dl.length cv8)).setCell ⟨hz,9,none⟩ (.bool op)=wz:=⟨_,rfl⟩
 rw [hwz] at HS10 ZZ ⊢
 obtain ⟨q1,q2,q3,q4,hsame⟩:=HS10
 clear hwz
 have e0:=ZZ.cell (i:=0) rfl
 have e1:=ZZ.cell (i:=1) rfl
 have e2:=ZZ.cell (i:=2) rfl
 have e3:=ZZ.cell (i:=3) rfl
 have e4:=ZZ.cell (i:=4) rfl
 have e5:=ZZ.cell (i:=5) rfl
 have e6:=ZZ.cell (i:=6) rfl
 have e7:=ZZ.cell (i:=7) rfl
 have e8:=ZZ.cell (i:=8) rfl
 have e9:=ZZ.cell (i:=9) rfl
 have HRD:rdRec st=(⟨6,tx,pv,0,0, [], [],0,dl,op⟩,sf):=by
  simp [rdRec,rcdN,rcdB,rdD,HK.out,HS2.out,HU3.out,HS3.out,HU5.out,HS5.out,HQ.out,HDL.out,HSF.out,hpv,hch,hbf,hnx,hck,HOP.out]
 rw [HRD]
 have YG:w.grownBy wz (some g):=by
  have h1:=YF.out.to1 HHW.out.2.1
  exact ⟨q1.trans h1.os,q2.trans h1.tape,q3.trans h1.output,Nat.le_trans h1.size (Nat.le_of_eq q4.symm),fun b hb hne=>(hsame b (by have:=HHW.out;omega)).trans (h1.block b hb hne)⟩
 refine bodyPost_ret (v:= .agg #[.int .u8 6, .int .u64 tx, .int .u64 pv, .int .i64 0, .int .i64 0, .slice none 0 0, .slice none 0 0, .int .u64 0, .slice AV8 dl.length cv8, .bool op]) (by simp [results,Tryz.results129,go_sem,e0,e1,e2,e3,e4,e5,e6,e7,e8,e9];try rfl) rfl ?_
 exact ⟨_,_,_,rfl,Own.nil _ _,Own.nil _ _,ownD_mono (DF.out.same (fun b hb=>hsame b (by have:=(DF.out.at b hb).1;have:=S5.out;have:=HBL.out;omega))) (Nat.le_trans HBL.out.2.2.2 S5.out),RF.out.same (hsame g (fun e=>HNE.out.2.1 e.symm)),YG,fun b hb=>by cases hb⟩
theorem record_7 (g:Nat) (st:List UInt8×Bool) (w0 w:World) (hx:Ext w0 w) (hg0:w0.heap.size≤g) (hr:RdrAt w0 w g st) (hl:st.1.length≤140737488351232) (k:Int) (h1:k≠1) (h2:k≠2) (h3:k≠3) (h4:k≠4) (h5:k≠5) (h6:k≠6) (hk:num (tk 1 st).1=k):
  Calls Tryz.prog 129 #[.pointer (some ⟨g,0,none⟩)] w (RecP w0 w g (rdRec st)):=by
 have HX:=hide hx
 have HG0:=hide hg0
 have HGL:=hide hr.lt
 have HK:=hide hk
 have HL0:=hide hl
 have R0:=hide hr
 have e1:hpv k=false:=by simp only [hpv,Bool.and_eq_false_iff,decide_eq_false_iff_not];omega
 have e2:hok k=false:=by simp only [hok,Bool.and_eq_false_iff,decide_eq_false_iff_not];omega
 have e3:hch k=false:=by simp [hch,h2,h3]
 have e4:hbf k=false:=by simp [hbf,h2]
 have e5:hnx k=false:=by simp [hnx,h3]
 have e6:hck k=false:=by simp [hck,h6]
 have KP:=hide (fun (W:World)=>(show Calls Tryz.prog 122 #[.int .u8 k] W (fun e w' =>e= .returned (.tuple #[.agg #[.bool false, .bool false, .bool false, .bool false, .bool false], .bool false])∧Ext W w') from by have h:=partsOf_any k W;unfold PartsP at h;rw [e1,e2,e3,e4,e5,e6] at h;exact h))
 have HE:=hide (And.intro e1 (And.intro e3 (And.intro e4 (And.intro e5 e6))))
 have hkb:0≤k∧k≤255:=by have h:=num_lt 1 st;rw [hk] at h;exact ⟨h.1,by have:=h.2;omega⟩
 have hwk:IntKind.u8.wrap k=k:=by rw [IntKind.wrap_u8];omega
 clear e1 e2 e3 e4 e5 e6 h1 h2 h3 h4 h5 h6
 clear hx hg0 hr hl hk
 go_enter Tryz.func129,Tryz.ntmps129
 go_upto_region 2 with fail
 obtain ⟨W1,hX1,hRz,hRh,hgg⟩:∃W1,Ext w W1∧Rw W1 w.heap.size 95 [.int .u8 0, .int .u64 0, .int .u64 0, .int .i64 0, .int .i64 0, .slice none 0 0, .slice none 0 0, .int .u64 0, .slice none 0 0, .bool false]∧Rw W1 (w.heap.size + 1) 95 [.int .u8 0, .int .u64 0, .int .u64 0, .int .i64 0, .int .i64 0, .slice none 0 0, .slice none 0 0, .int .u64 0, .slice none 0 0, .bool false]∧(w.alloc (.cells #[.int .u8 0, .int .u64 0, .int .u64 0, .int .i64 0, .int .i64 0, .slice none 0 0, .slice none 0 0, .int .u64 0, .slice none 0 0, .bool false] 95)).alloc (.cells #[.int .u8 0, .int .u64 0, .int .u64 0, .int .i64 0, .int .i64 0, .slice none 0 0, .slice none 0 0, .int .u64 0, .slice none 0 0, .bool false] 95)=W1:=⟨_,(Ext.alloc _ _).trans (Ext.alloc _ _),(Rw.new w 95 [.int .u8 0, .int .u64 0, .int .u64 0, .int .i64 0, .int .i64 0, .slice none 0 0, .slice none 0 0, .int .u64 0, .slice none 0 0, .bool false]).ext (Ext.alloc _ _),(by have h:=Rw.new (w.alloc (.cells #[.int .u8 0, .int .u64 0, .int .u64 0, .int .i64 0, .int .i64 0, .slice none 0 0, .slice none 0 0, .int .u64 0, .slice none 0 0, .bool false] 95)) 95 [.int .u8 0, .int .u64 0, .int .u64 0, .int .i64 0, .int .i64 0, .slice none 0 0, .slice none 0 0, .int .u64 0, .slice none 0 0, .bool false];rwa [show (w.alloc (.cells #[.int .u8 0, .int .u64 0, .int .u64 0, .int .i64 0, .int .i64 0, .slice none 0 0, .slice none 0 0, .int .u64 0, .slice none 0 0, .bool false] 95)).heap.size=w.heap.size + 1 by simp] at h),rfl⟩
 rw [hgg]
 obtain ⟨hz,HHZ⟩:∃hz,Hid (w.heap.size=hz):=⟨_,hide rfl⟩
 rw [HHZ.out] at hRz hRh ⊢
 obtain ⟨h,HHH⟩:∃h,Hid (hz + 1=h):=⟨_,hide rfl⟩
 rw [HHH.out] at hRh
 try rw [HHH.out]
 have BX1:=hide hRh
 have ZX1:=hide hRz
 have R1:=hide (R0.out.ext hX1)
 have Y1:Hid (Only2 g h w W1):=hide ((Only2.refl g h w).ext hX1)
 have HNE:Hid (h≠g∧hz≠g∧h≠hz∧hz < h):=hide (by have:=HGL.out;have:=HHZ.out;have:=HHH.out;omega)
 have HHW:Hid (w0.heap.size≤h∧w.heap.size≤h∧w.heap.size≤hz):=hide (by have:=HX.out.size;have:=HHZ.out;have:=HHH.out;omega)
 obtain ⟨BB,HBB⟩:∃BB,Hid (W1.heap.size=BB):=⟨_,hide rfl⟩
 have HBL:Hid (h < BB∧hz < BB∧g < BB∧w.heap.size≤BB):=hide (by rw [← HBB.out];exact ⟨BX1.out.lt,ZX1.out.lt,R1.out.lt,hX1.size⟩)
 have S1:Hid (BB≤W1.heap.size):=hide (by rw [HBB.out];exact Nat.le_refl _)
 clear hgg hX1 hRz hRh R0
 have KN:=hide (number_1 g st w0 W1 (Y1.out.ofExt HX.out HG0.out HHW.out.1) R1.out HL0.out)
 rw [HK.out] at KN
 obtain ⟨s2,HS2⟩:∃s,Hid ((tk 1 st).2=s):=⟨_,hide rfl⟩
 rw [HS2.out] at KN
 have HL2:Hid (s2.1.length≤140737488351232):=hide (by rw [← HS2.out];exact Nat.le_trans (tk_left 1 st) HL0.out)
 go_upto_region 3 with (go_at_call 139;(with_reducible refine KN.out.mono ?_);rintro e x2 ⟨_,rfl,rfl,hr2,hg2⟩;have R2:=hide hr2;have BX2:Hid (Rw x2 h 95 [.int .u8 0, .int .u64 0, .int .u64 0, .int .i64 0, .int .i64 0, .slice none 0 0, .slice none 0 0, .int .u64 0, .slice none 0 0, .bool false]):=hide ((hg2.block h BX1.out.lt (fun e=>HNE.out.1 (by injection e))).trans BX1.out);have ZX2:Hid (Rw x2 hz 95 [.int .u8 0, .int .u64 0, .int .u64 0, .int .i64 0, .int .i64 0, .slice none 0 0, .slice none 0 0, .int .u64 0, .slice none 0 0, .bool false]):=hide ((hg2.block hz ZX1.out.lt (fun e=>HNE.out.2.1 (by injection e))).trans ZX1.out);have Y2:Hid (Only2 g h w x2):=hide (Y1.out.grown hg2 (fun b e=> .inl (by injection e with e;exact e.symm)));have S2:Hid (BB≤x2.heap.size):=hide (Nat.le_trans S1.out hg2.size);have cc:=BX2.out.cell (i:=0) rfl;have ff:=BX2.out.frozen 0;clear hr2 hg2)
 obtain ⟨w2,hgg,hB,hZ,hR,hY,hS⟩:∃W,x2.setCell ⟨h,0,none⟩ (.int .u8 k)=W∧Rw W h 95 [.int .u8 k, .int .u64 0, .int .u64 0, .int .i64 0, .int .i64 0, .slice none 0 0, .slice none 0 0, .int .u64 0, .slice none 0 0, .bool false]∧Rw W hz 95 [.int .u8 0, .int .u64 0, .int .u64 0, .int .i64 0, .int .i64 0, .slice none 0 0, .slice none 0 0, .int .u64 0, .slice none 0 0, .bool false]∧RdrAt w0 W g s2∧Only2 g h w W∧BB≤W.heap.size:=⟨_,rfl,BX2.out.set 0 _,ZX2.out.far (fun e=>HNE.out.2.2.1 e.symm) _,R2.out.same (Below.heap_setCell x2 ⟨h,0,none⟩ _ g (fun e=>HNE.out.1 e.symm)),Y2.out.set 0 _,Nat.le_trans S2.out (by simp [World.setCell])⟩
 rw [hgg]
 have BX2:=hide hB
 have ZX2:=hide hZ
 have R2:=hide hR
 have Y2:=hide hY
 have S2:=hide hS
 clear hgg hB hZ hR hY hS cc ff
 clear KN
 have KN:=hide (number_8 g s2 w0 w2 (Y2.out.ofExt HX.out HG0.out HHW.out.1) R2.out HL2.out)
 obtain ⟨tx,HU3⟩:∃u,Hid (num (tk 8 s2).1=u):=⟨_,hide rfl⟩
 rw [HU3.out] at KN
 obtain ⟨s3,HS3⟩:∃s,Hid ((tk 8 s2).2=s):=⟨_,hide rfl⟩
 rw [HS3.out] at KN
 have HL3:Hid (s3.1.length≤140737488351232):=hide (by rw [← HS3.out];exact Nat.le_trans (tk_left 8 s2) HL2.out)
 go_upto_region 4 with (go_at_call 139;(with_reducible refine KN.out.mono ?_);rintro e x3 ⟨_,rfl,rfl,hr2,hg2⟩;have R3:=hide hr2;have BX3:Hid (Rw x3 h 95 [.int .u8 k, .int .u64 0, .int .u64 0, .int .i64 0, .int .i64 0, .slice none 0 0, .slice none 0 0, .int .u64 0, .slice none 0 0, .bool false]):=hide ((hg2.block h BX2.out.lt (fun e=>HNE.out.1 (by injection e))).trans BX2.out);have ZX3:Hid (Rw x3 hz 95 [.int .u8 0, .int .u64 0, .int .u64 0, .int .i64 0, .int .i64 0, .slice none 0 0, .slice none 0 0, .int .u64 0, .slice none 0 0, .bool false]):=hide ((hg2.block hz ZX2.out.lt (fun e=>HNE.out.2.1 (by injection e))).trans ZX2.out);have Y3:Hid (Only2 g h w x3):=hide (Y2.out.grown hg2 (fun b e=> .inl (by injection e with e;exact e.symm)));have S3:Hid (BB≤x3.heap.size):=hide (Nat.le_trans S2.out hg2.size);have cc:=BX3.out.cell (i:=1) rfl;have ff:=BX3.out.frozen 1;clear hr2 hg2)
 obtain ⟨w3,hgg,hB,hZ,hR,hY,hS⟩:∃W,x3.setCell ⟨h,1,none⟩ (.int .u64 tx)=W∧Rw W h 95 [.int .u8 k, .int .u64 tx, .int .u64 0, .int .i64 0, .int .i64 0, .slice none 0 0, .slice none 0 0, .int .u64 0, .slice none 0 0, .bool false]∧Rw W hz 95 [.int .u8 0, .int .u64 0, .int .u64 0, .int .i64 0, .int .i64 0, .slice none 0 0, .slice none 0 0, .int .u64 0, .slice none 0 0, .bool false]∧RdrAt w0 W g s3∧Only2 g h w W∧BB≤W.heap.size:=⟨_,rfl,BX3.out.set 1 _,ZX3.out.far (fun e=>HNE.out.2.2.1 e.symm) _,R3.out.same (Below.heap_setCell x3 ⟨h,1,none⟩ _ g (fun e=>HNE.out.1 e.symm)),Y3.out.set 1 _,Nat.le_trans S3.out (by simp [World.setCell])⟩
 rw [hgg]
 have BX3:=hide hB
 have ZX3:=hide hZ
 have R3:=hide hR
 have Y3:=hide hY
 have S3:=hide hS
 clear hgg hB hZ hR hY hS cc ff
 clear KN
 have cc:=BX3.out.cell (i:=0) rfl
 go_upto_region 5 with (go_at_call 122;(with_reducible refine (KP.out _).mono ?_);rintro e xp ⟨rfl,hxp⟩;have XP:=hide hxp;clear hxp)
 clear cc KP
 obtain ⟨w4,hXQ,hQ,hgg⟩:∃W,Ext w3 W∧Rw W xp.heap.size 162 [.bool false, .bool false, .bool false, .bool false, .bool false]∧xp.alloc (.cells #[.bool false, .bool false, .bool false, .bool false, .bool false] 162)=W:=⟨_,XP.out.trans (Ext.alloc _ _),Rw.new _ _ _,rfl⟩
 rw [hgg]
 obtain ⟨hq,HHQ⟩:∃hq,Hid (xp.heap.size=hq):=⟨_,hide rfl⟩
 rw [HHQ.out] at hQ ⊢
 have BX4:=hide (BX3.out.ext hXQ)
 have ZX4:=hide (ZX3.out.ext hXQ)
 have R4:=hide (R3.out.ext hXQ)
 have Y4:=hide (Y3.out.ext hXQ)
 have S4:Hid (BB≤w4.heap.size):=hide (Nat.le_trans S3.out hXQ.size)
 have QX4:=hide hQ
 have HQN:Hid (hq≠g∧hq≠h):=hide (by have h1:BB≤xp.heap.size:=Nat.le_trans S3.out XP.out.size;have:=HHQ.out;have:=HBL.out;omega)
 clear hgg hXQ hQ
 have q0:=QX4.out.cell (i:=0) rfl
 have q1:=QX4.out.cell (i:=1) rfl
 have q2:=QX4.out.cell (i:=2) rfl
 have q3:=QX4.out.cell (i:=3) rfl
 have q4:=QX4.out.cell (i:=4) rfl
 have z0:=ZX4.out.cell (i:=0) rfl
 have z1:=ZX4.out.cell (i:=1) rfl
 have z2:=ZX4.out.cell (i:=2) rfl
 have z3:=ZX4.out.cell (i:=3) rfl
 have z4:=ZX4.out.cell (i:=4) rfl
 have z5:=ZX4.out.cell (i:=5) rfl
 have z6:=ZX4.out.cell (i:=6) rfl
 have z7:=ZX4.out.cell (i:=7) rfl
 have z8:=ZX4.out.cell (i:=8) rfl
 have z9:=ZX4.out.cell (i:=9) rfl
 have y0:=BX4.out.cell (i:=0) rfl
 have y1:=BX4.out.cell (i:=1) rfl
 have y2:=BX4.out.cell (i:=2) rfl
 have y3:=BX4.out.cell (i:=3) rfl
 have y4:=BX4.out.cell (i:=4) rfl
 have y5:=BX4.out.cell (i:=5) rfl
 have y6:=BX4.out.cell (i:=6) rfl
 have y7:=BX4.out.cell (i:=7) rfl
 have y8:=BX4.out.cell (i:=8) rfl
 have y9:=BX4.out.cell (i:=9) rfl
 have f0:=ZX4.out.frozen 0
 have f1:=ZX4.out.frozen 1
 have f2:=ZX4.out.frozen 2
 have f3:=ZX4.out.frozen 3
 have f4:=ZX4.out.frozen 4
 have f5:=ZX4.out.frozen 5
 have f6:=ZX4.out.frozen 6
 have f7:=ZX4.out.frozen 7
 have f8:=ZX4.out.frozen 8
 have f9:=ZX4.out.frozen 9
 go_wp2
 have ZZ:=((((((((((ZX4.out.set 0 (.int .u8 k)).set 1 (.int .u64 tx)).set 2 (.int .u64 0)).set 3 (.int .i64 0)).set 4 (.int .i64 0)).set 5 (.slice none 0 0)).set 6 (.slice none 0 0)).set 7 (.int .u64 0)).set 8 (.slice none 0 0)).set 9 (.bool false))
 have HS10:=sets_only hz [(0, .int .u8 k),(1, .int .u64 tx),(2, .int .u64 0),(3, .int .i64 0),(4, .int .i64 0),(5, .slice none 0 0),(6, .slice none 0 0),(7, .int .u64 0),(8, .slice none 0 0),(9, .bool false)] w4
 simp only [List.foldl_cons,List.foldl_nil] at HS10
 obtain ⟨wz,hwz⟩:∃wz,((((((((((w4).setCell ⟨hz,0,none⟩ (.int .u8 k)).setCell ⟨hz,1,none⟩ (.int .u64 tx)).setCell ⟨hz,2,none⟩ (.int .u64 0)).setCell ⟨hz,3,none⟩ (.int .i64 0)).setCell ⟨hz,4,none⟩ (.int .i64 0)).setCell ⟨hz,5,none⟩ (.slice none 0 0)).setCell ⟨hz,6,none⟩ (.slice none 0 0)).setCell ⟨hz,7,none⟩ (.int .u64 0)).setCell ⟨hz,8,none⟩ (.slice none 0 0)).setCell ⟨hz,9,none⟩ (.bool false)=wz:=⟨_,rfl⟩
 rw [hwz] at HS10 ZZ ⊢
 obtain ⟨q1,q2,q3,q4,hsame⟩:=HS10
 clear hwz
 have e0:=ZZ.cell (i:=0) rfl
 have e1:=ZZ.cell (i:=1) rfl
 have e2:=ZZ.cell (i:=2) rfl
 have e3:=ZZ.cell (i:=3) rfl
 have e4:=ZZ.cell (i:=4) rfl
 have e5:=ZZ.cell (i:=5) rfl
 have e6:=ZZ.cell (i:=6) rfl
 have e7:=ZZ.cell (i:=7) rfl
 have e8:=ZZ.cell (i:=8) rfl
 have e9:=ZZ.cell (i:=9) rfl
 have HRD:rdRec st=(⟨k,tx,0,0,0, [], [],0, [],false⟩,s3):=by
  simp [rdRec,rcdN,rcdB,rdD,HK.out,HS2.out,HU3.out,HS3.out,HE.out.1,HE.out.2.1,HE.out.2.2.1,HE.out.2.2.2.1,HE.out.2.2.2.2]
 rw [HRD]
 have YG:w.grownBy wz (some g):=by
  have h1:=Y4.out.to1 HHW.out.2.1
  exact ⟨q1.trans h1.os,q2.trans h1.tape,q3.trans h1.output,Nat.le_trans h1.size (Nat.le_of_eq q4.symm),fun b hb hne=>(hsame b (by have:=HHW.out;omega)).trans (h1.block b hb hne)⟩
 refine bodyPost_ret (v:= .agg #[.int .u8 k, .int .u64 tx, .int .u64 0, .int .i64 0, .int .i64 0, .slice none 0 0, .slice none 0 0, .int .u64 0, .slice none 0 0, .bool false]) (by simp [results,Tryz.results129,go_sem,e0,e1,e2,e3,e4,e5,e6,e7,e8,e9];try rfl) rfl ?_
 exact ⟨_,_,_,rfl,Own.nil _ _,Own.nil _ _,OwnDr.nil _ _,R4.out.same (hsame g (fun e=>HNE.out.2.1 e.symm)),YG,fun b hb=>by cases hb⟩
theorem record_any (g:Nat) (st:List UInt8×Bool) (w0 w:World) (hx:Ext w0 w) (hg0:w0.heap.size≤g) (hr:RdrAt w0 w g st) (hl:st.1.length≤140737488351232):
  Calls Tryz.prog 129 #[.pointer (some ⟨g,0,none⟩)] w (RecP w0 w g (rdRec st)):=by
 obtain ⟨k,hk⟩:∃k,num (tk 1 st).1=k:=⟨_,rfl⟩
 by_cases h1:k=1
 ·subst h1;exact record_1 g st w0 w hx hg0 hr hl hk
 by_cases h2:k=2
 ·subst h2;exact record_2 g st w0 w hx hg0 hr hl hk
 by_cases h3:k=3
 ·subst h3;exact record_3 g st w0 w hx hg0 hr hl hk
 by_cases h4:k=4
 ·subst h4;exact record_4 g st w0 w hx hg0 hr hl hk
 by_cases h5:k=5
 ·subst h5;exact record_5 g st w0 w hx hg0 hr hl hk
 by_cases h6:k=6
 ·subst h6;exact record_6 g st w0 w hx hg0 hr hl hk
 exact record_7 g st w0 w hx hg0 hr hl k h1 h2 h3 h4 h5 h6 hk
end Go.Proofs.YthmdmgnhfhpcaaaGreatDoor
