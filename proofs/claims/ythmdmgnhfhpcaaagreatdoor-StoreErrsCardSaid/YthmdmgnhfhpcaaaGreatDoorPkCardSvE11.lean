/-
  What the card wants, part 11: RcD, StN, StO, StQ, StR.
-/
import Derived.Test.YthmdmgnhfhpcaaaGreatDoorPkCardSvE6
import Derived.Test.YthmdmgnhfhpcaaaGreatDoorPkCardSvE8
import Derived.Test.YthmdmgnhfhpcaaaGreatDoorPkCardSvE9
import Derived.Test.YthmdmgnhfhpcaaaGreatDoorPkCardSvE10
set_option linter.unusedVariables false
set_option linter.unusedSimpArgs false
set_option maxRecDepth 20000
set_option maxHeartbeats 12800000
namespace Go.Proofs.YthmdmgnhfhpcaaaGreatDoor
open Go.RowKit
theorem rcstr_any {w:World} {A:Option Addr} {l:List UInt8} (h:Rd w A l) (n c:Nat) (hn:l.length=n):(convert 22 9 (.slice A n c)).run Tryz.prog w= .ok (.string ⟨l.toArray⟩) w:=by
 subst hn
 exact h.str (P:=Tryz.prog) 22 9 5 c Tryz.underlying22 Tryz.underlying5 Tryz.underlying9
theorem rcequal_any (A B:Option Addr) (l m:List UInt8) (n p c d:Nat) (w:World) (hA:Rd w A l) (hB:Rd w B m) (hn:l.length=n) (hp:m.length=p):
  Calls Tryz.prog 114 #[.slice A n c, .slice B p d] w (fun e w' =>e= .returned (.bool (l==m))∧w' =w):=by
 have cv1:=rcstr_any hA n c hn
 have cv2:=rcstr_any hB p d hp
 cases hb:(l==m) with
 | true=>
  go_enter Tryz.func114,Tryz.ntmps114
  go_wp2
  go_ret
  exact ⟨rfl,rfl⟩
 | false=>
  go_enter Tryz.func114,Tryz.ntmps114
  go_wp2
  go_ret
  exact ⟨rfl,rfl⟩
def formB (r:Rec):Bool:=formN r.k r.pv r.pg r.off r.nx r.af.length r.bf.length r.dl.length r.dl r.op
def decV (l:List UInt8):Int×Option Rec:=
 if l.length < 5 then (3,none) else if (sumB (l.take (l.length - 4))==l.drop (l.length - 4))=false then (15,none)
 else if (rdRec (l.take (l.length - 4),false)).2=([],false)∧formB (rdRec (l.take (l.length - 4),false)).1=true then (0,some (rdRec (l.take (l.length - 4),false)).1) else (3,none)
def DecP (w:World) (x:Int×Option Rec) (e:Ending) (w':World):Prop:=Ext w w'∧match x.2 with
 | none=>e= .returned (.tuple #[.agg #[.int .u8 0, .int .u64 0, .int .u64 0, .int .i64 0, .int .i64 0, .slice none 0 0, .slice none 0 0, .int .u64 0, .slice none 0 0, .bool false], .int .i64 x.1])
 | some r=>∃v5 v6 v8,e= .returned (.tuple #[.agg #[.int .u8 r.k, .int .u64 r.tx, .int .u64 r.pv, .int .i64 r.pg, .int .i64 r.off,v5,v6, .int .u64 r.nx,v8, .bool r.op], .int .i64 0])∧Own w' w.heap.size v5 r.bf∧Own w' w.heap.size v6 r.af∧OwnDr w' w.heap.size v8 r.dl∧∀b,v5.ownBlock=some b→v6.ownBlock≠some b
theorem DecP.no {w w':World} {x:Int×Option Rec} {e:Ending} {n:Int} (hx:Ext w w') (h:x=(n,none)) (he:e= .returned (.tuple #[.agg #[.int .u8 0, .int .u64 0, .int .u64 0, .int .i64 0, .int .i64 0, .slice none 0 0, .slice none 0 0, .int .u64 0, .slice none 0 0, .bool false], .int .i64 n])):DecP w x e w':=by
 subst h
 exact ⟨hx,he⟩
theorem rdN_lt (b:Bool) (n:Nat) (st:List UInt8×Bool):0≤(rcdN b n st).1∧(rcdN b n st).1 < 256 ^ n:=by
 unfold rcdN
 split
 ·exact num_lt n st
 ·refine ⟨Int.le_refl _, ?_⟩
  show (0:Int) < 256 ^ n
  exact Int.pow_pos (by decide)
theorem rdB_le (b:Bool) (n:Nat) (st:List UInt8×Bool):(rcdB b n st).1.length≤n:=by
 unfold rcdB
 split
 ·exact tk_le n st
 ·exact Nat.zero_le _
theorem rdD_le (b:Bool) (q:Nat) (st:List UInt8×Bool):(rdD b q st).1.length≤q:=by
 unfold rdD
 split
 ·rw [dirR_len];omega
 ·exact Nat.zero_le _
structure RecIn (r:Rec):Prop where
 off:0≤r.off∧r.off < 65536
 bf:r.bf.length≤65535
 af:r.af.length≤65535
 dl:r.dl.length≤255
theorem rdRec_in (st:List UInt8×Bool):RecIn (rdRec st).1:=by
 have h4:=fun s=>rdN_lt (hch (num (tk 1 st).1)) 2 s
 refine ⟨by have h:=h4 (rcdN (hch (num (tk 1 st).1)) 2 (rcdN (hpv (num (tk 1 st).1)) 8 (tk 8 (tk 1 st).2).2).2).2;exact ⟨h.1,h.2⟩, ?_, ?_, ?_⟩
 ·refine Nat.le_trans (rdB_le _ _ _) ?_
  have h:=h4 (rcdN (hch (num (tk 1 st).1)) 2 (rcdN (hch (num (tk 1 st).1)) 2 (rcdN (hpv (num (tk 1 st).1)) 8 (tk 8 (tk 1 st).2).2).2).2).2
  have:=h.2
  omega
 ·refine Nat.le_trans (rdB_le _ _ _) ?_
  have h:=h4 (rcdN (hch (num (tk 1 st).1)) 2 (rcdN (hch (num (tk 1 st).1)) 2 (rcdN (hpv (num (tk 1 st).1)) 8 (tk 8 (tk 1 st).2).2).2).2).2
  have:=h.2
  omega
 ·refine Nat.le_trans (rdD_le _ _ _) ?_
  have h:=fun s=>rdN_lt (hck (num (tk 1 st).1)) 1 s
  have h2:=fun s=>(h s).2
  have h3:∀s,(rcdN (hck (num (tk 1 st).1)) 1 s).1.toNat≤255:=fun s=>by have:=h2 s;omega
  exact h3 _
theorem decode_any (A:Option Addr) (l:List UInt8) (n c:Nat) (w:World) (hr:Rd w A l) (hn:l.length=n) (hnc:n≤c) (hl:n≤140737488351232) (ht:Tab w):
  Calls Tryz.prog 105 #[.slice A n c] w (DecP w (decV l)):=by
 have HR:=hide hr
 have HN:=hide hn
 have HT:=hide ht
 have HNC:=hide hnc
 have hni:(n:Int)≤140737488351232:=by omega
 by_cases h5:n < 5
 ·have HV:Hid (decV l=(3,none)):=hide (by unfold decV;rw [if_pos (by rw [hn];exact h5)])
  have h5i:(n:Int) - 4 < 1:=by omega
  clear hr hn hnc ht hl
  go_enter Tryz.func105,Tryz.ntmps105
  go_upto_region 1 with fail
  obtain ⟨W1,hX1,hZ1,hgg⟩:∃W1,Ext w W1∧Rw W1 w.heap.size 95 [.int .u8 0, .int .u64 0, .int .u64 0, .int .i64 0, .int .i64 0, .slice none 0 0, .slice none 0 0, .int .u64 0, .slice none 0 0, .bool false]∧w.alloc (.cells #[.int .u8 0, .int .u64 0, .int .u64 0, .int .i64 0, .int .i64 0, .slice none 0 0, .slice none 0 0, .int .u64 0, .slice none 0 0, .bool false] 95)=W1:=⟨_,Ext.alloc _ _,Rw.new _ _ _,rfl⟩
  rw [hgg]
  obtain ⟨hz,HHZ⟩:∃hz,Hid (w.heap.size=hz):=⟨_,hide rfl⟩
  rw [HHZ.out] at hZ1 ⊢
  have HZW:Hid (w.heap.size≤hz):=hide (by rw [HHZ.out];exact Nat.le_refl _)
  have X1:=hide hX1
  have ZX1:=hide hZ1
  clear hgg hX1 hZ1
  have z0:=ZX1.out.cell (i:=0) rfl
  have z1:=ZX1.out.cell (i:=1) rfl
  have z2:=ZX1.out.cell (i:=2) rfl
  have z3:=ZX1.out.cell (i:=3) rfl
  have z4:=ZX1.out.cell (i:=4) rfl
  have z5:=ZX1.out.cell (i:=5) rfl
  have z6:=ZX1.out.cell (i:=6) rfl
  have z7:=ZX1.out.cell (i:=7) rfl
  have z8:=ZX1.out.cell (i:=8) rfl
  have z9:=ZX1.out.cell (i:=9) rfl
  have f0:=ZX1.out.frozen 0
  have f1:=ZX1.out.frozen 1
  have f2:=ZX1.out.frozen 2
  have f3:=ZX1.out.frozen 3
  have f4:=ZX1.out.frozen 4
  have f5:=ZX1.out.frozen 5
  have f6:=ZX1.out.frozen 6
  have f7:=ZX1.out.frozen 7
  have f8:=ZX1.out.frozen 8
  have f9:=ZX1.out.frozen 9
  go_wp2
  have ZZ:=((((((((((ZX1.out.set 0 (.int .u8 0)).set 1 (.int .u64 0)).set 2 (.int .u64 0)).set 3 (.int .i64 0)).set 4 (.int .i64 0)).set 5 (.slice none 0 0)).set 6 (.slice none 0 0)).set 7 (.int .u64 0)).set 8 (.slice none 0 0)).set 9 (.bool false))
  have HS10:=sets_only hz [(0, .int .u8 0),(1, .int .u64 0),(2, .int .u64 0),(3, .int .i64 0),(4, .int .i64 0),(5, .slice none 0 0),(6, .slice none 0 0),(7, .int .u64 0),(8, .slice none 0 0),(9, .bool false)] W1
  simp only [List.foldl_cons,List.foldl_nil] at HS10
  obtain ⟨wz,hwz⟩:∃wz,((((((((((W1).setCell ⟨hz,0,none⟩ (.int .u8 0)).setCell ⟨hz,1,none⟩ (.int .u64 0)).setCell ⟨hz,2,none⟩ (.int .u64 0)).setCell ⟨hz,3,none⟩ (.int .i64 0)).setCell ⟨hz,4,none⟩ (.int .i64 0)).setCell ⟨hz,5,none⟩ (.slice none 0 0)).setCell ⟨hz,6,none⟩ (.slice none 0 0)).setCell ⟨hz,7,none⟩ (.int .u64 0)).setCell ⟨hz,8,none⟩ (.slice none 0 0)).setCell ⟨hz,9,none⟩ (.bool false)=wz:=⟨_,rfl⟩
  rw [hwz] at HS10 ZZ ⊢
  obtain ⟨q1,q2,q3,q4,hsame⟩:=HS10
  clear hwz
  have e0:=ZZ.cell (i:=0) rfl
  have e1:=ZZ.cell (i:=1) rfl
  have e2:=ZZ.cell (i:=2) rfl
  have e3:=ZZ.cell (i:=3) rfl
  have e4:=ZZ.cell (i:=4) rfl
  have e5:=ZZ.cell (i:=5) rfl
  have e6:=ZZ.cell (i:=6) rfl
  have e7:=ZZ.cell (i:=7) rfl
  have e8:=ZZ.cell (i:=8) rfl
  have e9:=ZZ.cell (i:=9) rfl
  have XZ:Ext w wz:=⟨q1.trans X1.out.os,q2.trans X1.out.tape,q3.trans X1.out.output,Nat.le_trans X1.out.size (Nat.le_of_eq q4.symm),fun b hb=>(hsame b (by have:=HZW.out;omega)).trans (X1.out.block b hb)⟩
  refine bodyPost_ret (v:= .tuple #[.agg #[.int .u8 0, .int .u64 0, .int .u64 0, .int .i64 0, .int .i64 0, .slice none 0 0, .slice none 0 0, .int .u64 0, .slice none 0 0, .bool false], .int .i64 3]) (by simp [results,Tryz.results105,go_sem,e0,e1,e2,e3,e4,e5,e6,e7,e8,e9];try rfl) rfl ?_
  exact DecP.no XZ HV.out rfl
 ·obtain ⟨m,hm⟩:∃m,n=m + 4:=⟨n - 4,by omega⟩
  have HM:=hide hm
  have h5i:¬(n:Int) - 4 < 1:=by omega
  have hnm:(n:Int) - 4=(m:Int):=by omega
  have hm1:1≤m:=by omega
  have hmi:¬(m:Int) < 1:=by omega
  have hmc:(m:Int)≤(c:Int):=by omega
  have hmn:(m:Int)≤(n:Int):=by omega
  have hcm:¬c=m:=by omega
  have hnm2:n - m=4:=by omega
  obtain ⟨b,off,rfl,hcell⟩:=hr (by intro e;rw [e] at hn;simp at hn;omega)
  have HC:=hide hcell
  obtain ⟨x,HXX⟩:∃x,Hid (l.take m=x):=⟨_,hide rfl⟩
  obtain ⟨y,HYY⟩:∃y,Hid (l.drop m=y):=⟨_,hide rfl⟩
  have HXL:Hid (x.length=m):=hide (by rw [← HXX.out,List.length_take,hn];omega)
  have HYL:Hid (y.length=4):=hide (by rw [← HYY.out,List.length_drop,hn];omega)
  have RX:Hid (Rd w (some ⟨b,off,none⟩) x):=hide (by rw [← HXX.out];exact hr.take m)
  have RY:Hid (Rd w (some ⟨b,off + m,none⟩) y):=hide (by rw [← HYY.out];have h:=hr.drop m;rwa [add_flat] at h)
  have HDV:Hid (decV l=if (sumB x==y)=false then (15,none) else if (rdRec (x,false)).2=([],false)∧formB (rdRec (x,false)).1=true then (0,some (rdRec (x,false)).1) else (3,none)):=hide (by
   unfold decV
   rw [if_neg (by rw [hn];exact h5),show l.length - 4=m by omega,HXX.out,HYY.out])
  have HS4:Hid ((sumB x).length=4):=hide (numN_length 4 _ (by decide))
  have KS:=hide (fun (W:World) (hW:Ext w W)=>rcsumOf_any (some ⟨b,off,none⟩) x m c W (RX.out.ext hW) HXL.out (by omega) (HT.out.ext hW))
  have hmb:m≤140737488351232:=by omega
  have HMB:=hide hmb
  have HMN:Hid (m≤c):=hide (by omega)
  clear hr hn hnc ht hl hm h5 hcell hmb
  go_enter Tryz.func105,Tryz.ntmps105
  go_upto_region 1 with fail
  obtain ⟨W1,hX1,hZ1,hgg⟩:∃W1,Ext w W1∧Rw W1 w.heap.size 95 [.int .u8 0, .int .u64 0, .int .u64 0, .int .i64 0, .int .i64 0, .slice none 0 0, .slice none 0 0, .int .u64 0, .slice none 0 0, .bool false]∧w.alloc (.cells #[.int .u8 0, .int .u64 0, .int .u64 0, .int .i64 0, .int .i64 0, .slice none 0 0, .slice none 0 0, .int .u64 0, .slice none 0 0, .bool false] 95)=W1:=⟨_,Ext.alloc _ _,Rw.new _ _ _,rfl⟩
  rw [hgg]
  obtain ⟨hz,HHZ⟩:∃hz,Hid (w.heap.size=hz):=⟨_,hide rfl⟩
  rw [HHZ.out] at hZ1 ⊢
  have HZW:Hid (w.heap.size≤hz):=hide (by rw [HHZ.out];exact Nat.le_refl _)
  have X1:=hide hX1
  have ZX1:=hide hZ1
  clear hgg hX1 hZ1
  go_upto_region 4 with fail
  obtain ⟨q,HQ⟩:∃q,Hid ((sumB x==y)=q):=⟨_,hide rfl⟩
  rename_i hKK
  go_region_law (first
   | (go_simp;go_at_call 125;refine (KS.out _ (X1.out.trans (Ext.drew _))).mono ?_;rintro e w2 ⟨v2,rfl,hx2,ho2⟩;obtain ⟨As,cs,hvs,-,hrs⟩:=Own.bytes ho2;rw [HS4.out] at hvs;subst hvs;have KE:=rcequal_any As (some ⟨b,off + m,none⟩) (sumB x) y 4 4 cs (c - m) w2 hrs (RY.out.ext ((X1.out.trans (Ext.drew _)).trans hx2)) HS4.out HYL.out;rw [HQ.out] at KE;have X2:Hid (Ext w w2):=hide ((X1.out.trans (Ext.drew _)).trans hx2);have ZX2:Hid (Rw w2 hz 95 [.int .u8 0, .int .u64 0, .int .u64 0, .int .i64 0, .int .i64 0, .slice none 0 0, .slice none 0 0, .int .u64 0, .slice none 0 0, .bool false]):=hide ((ZX1.out.ext (Ext.drew _)).ext hx2))
   | (go_simp;go_at_call 114;refine KE.mono ?_;rintro e w3 ⟨rfl,rfl⟩))
  all_goals
   cases q with
   | false=>
    have z0:=ZX2.out.cell (i:=0) rfl
    have z1:=ZX2.out.cell (i:=1) rfl
    have z2:=ZX2.out.cell (i:=2) rfl
    have z3:=ZX2.out.cell (i:=3) rfl
    have z4:=ZX2.out.cell (i:=4) rfl
    have z5:=ZX2.out.cell (i:=5) rfl
    have z6:=ZX2.out.cell (i:=6) rfl
    have z7:=ZX2.out.cell (i:=7) rfl
    have z8:=ZX2.out.cell (i:=8) rfl
    have z9:=ZX2.out.cell (i:=9) rfl
    have f0:=ZX2.out.frozen 0
    have f1:=ZX2.out.frozen 1
    have f2:=ZX2.out.frozen 2
    have f3:=ZX2.out.frozen 3
    have f4:=ZX2.out.frozen 4
    have f5:=ZX2.out.frozen 5
    have f6:=ZX2.out.frozen 6
    have f7:=ZX2.out.frozen 7
    have f8:=ZX2.out.frozen 8
    have f9:=ZX2.out.frozen 9
    go_wp2
    have ZZ:=((((((((((ZX2.out.set 0 (.int .u8 0)).set 1 (.int .u64 0)).set 2 (.int .u64 0)).set 3 (.int .i64 0)).set 4 (.int .i64 0)).set 5 (.slice none 0 0)).set 6 (.slice none 0 0)).set 7 (.int .u64 0)).set 8 (.slice none 0 0)).set 9 (.bool false))
    have HS10:=sets_only hz [(0, .int .u8 0),(1, .int .u64 0),(2, .int .u64 0),(3, .int .i64 0),(4, .int .i64 0),(5, .slice none 0 0),(6, .slice none 0 0),(7, .int .u64 0),(8, .slice none 0 0),(9, .bool false)] w3
    simp only [List.foldl_cons,List.foldl_nil] at HS10
    obtain ⟨wz,hwz⟩:∃wz,((((((((((w3).setCell ⟨hz,0,none⟩ (.int .u8 0)).setCell ⟨hz,1,none⟩ (.int .u64 0)).setCell ⟨hz,2,none⟩ (.int .u64 0)).setCell ⟨hz,3,none⟩ (.int .i64 0)).setCell ⟨hz,4,none⟩ (.int .i64 0)).setCell ⟨hz,5,none⟩ (.slice none 0 0)).setCell ⟨hz,6,none⟩ (.slice none 0 0)).setCell ⟨hz,7,none⟩ (.int .u64 0)).setCell ⟨hz,8,none⟩ (.slice none 0 0)).setCell ⟨hz,9,none⟩ (.bool false)=wz:=⟨_,rfl⟩
    rw [hwz] at HS10 ZZ ⊢
    obtain ⟨q1,q2,q3,q4,hsame⟩:=HS10
    clear hwz
    have e0:=ZZ.cell (i:=0) rfl
    have e1:=ZZ.cell (i:=1) rfl
    have e2:=ZZ.cell (i:=2) rfl
    have e3:=ZZ.cell (i:=3) rfl
    have e4:=ZZ.cell (i:=4) rfl
    have e5:=ZZ.cell (i:=5) rfl
    have e6:=ZZ.cell (i:=6) rfl
    have e7:=ZZ.cell (i:=7) rfl
    have e8:=ZZ.cell (i:=8) rfl
    have e9:=ZZ.cell (i:=9) rfl
    have XZ:Ext w wz:=⟨q1.trans X2.out.os,q2.trans X2.out.tape,q3.trans X2.out.output,Nat.le_trans X2.out.size (Nat.le_of_eq q4.symm),fun b hb=>(hsame b (by have:=HZW.out;omega)).trans (X2.out.block b hb)⟩
    refine bodyPost_ret (v:= .tuple #[.agg #[.int .u8 0, .int .u64 0, .int .u64 0, .int .i64 0, .int .i64 0, .slice none 0 0, .slice none 0 0, .int .u64 0, .slice none 0 0, .bool false], .int .i64 15]) (by simp [results,Tryz.results105,go_sem,e0,e1,e2,e3,e4,e5,e6,e7,e8,e9];try rfl) rfl ?_
    exact DecP.no XZ (by rw [HDV.out,HQ.out,if_pos rfl]) rfl
   | true=>
    have O2H:=hide ho2
    clear ho2 KE hrs
    go_upto_region 7 with fail
    obtain ⟨w6,hX6,hG6,hgg⟩:∃W,Ext w3 W∧Rw W w3.heap.size 174 [.slice (some ⟨b,off,none⟩) m c, .bool false]∧w3.alloc (.cells #[.slice (some ⟨b,off,none⟩) m c, .bool false] 174)=W:=⟨_,Ext.alloc _ _,Rw.new _ _ _,rfl⟩
    rw [hgg]
    obtain ⟨g,HHG⟩:∃g,Hid (w3.heap.size=g):=⟨_,hide rfl⟩
    rw [HHG.out] at hG6 ⊢
    have X6:Hid (Ext w w6):=hide (X2.out.trans hX6)
    have ZX6:=hide (ZX2.out.ext hX6)
    have HGW:Hid (w.heap.size≤g∧hz≠g):=hide ⟨by rw [← HHG.out];exact X2.out.size,by have h1:=ZX2.out.lt;rw [HHG.out] at h1;omega⟩
    have RD6:Hid (RdrAt w w6 g (x,false)):=hide ⟨some ⟨b,off,none⟩,c,by show Rw _ _ _ [.slice _ x.length _,_];rw [HXL.out];exact hG6,by show x.length≤c;rw [HXL.out];exact HMN.out, .inr ⟨b,off,rfl,fun j u hu=>by
     have hu:x[j]? =some u:=hu
     rw [← HXX.out,List.getElem?_take] at hu
     split at hu
     ·exact HC.out j u hu
     ·cases hu⟩⟩
    obtain ⟨R,HRR⟩:∃R,Hid (rdRec (x,false)=R):=⟨_,hide rfl⟩
    have KR0:=record_any g (x,false) w w6 X6.out HGW.out.1 RD6.out (by show x.length≤_;rw [HXL.out];exact HMB.out)
    have HIN:=rdRec_in (x,false)
    rw [HRR.out] at KR0 HIN
    obtain ⟨⟨k,tx,pv,pg,of_,bf,af,nx,dl,op⟩,⟨lf,sh⟩⟩:=R
    obtain ⟨nb,HNB⟩:∃n,Hid (bf.length=n):=⟨_,hide rfl⟩
    obtain ⟨na,HNA⟩:∃n,Hid (af.length=n):=⟨_,hide rfl⟩
    obtain ⟨nd,HND⟩:∃n,Hid (dl.length=n):=⟨_,hide rfl⟩
    obtain ⟨pl,HPL⟩:∃n,Hid (lf.length=n):=⟨_,hide rfl⟩
    obtain ⟨⟨ho0,ho1⟩,hb2,ha2,hd2⟩:=HIN
    have ho0:0≤of_:=ho0
    have ho1:of_ < 65536:=ho1
    have hb2:nb≤65535:=by rw [← HNB.out];exact hb2
    have ha2:na≤65535:=by rw [← HNA.out];exact ha2
    have hd2:nd≤255:=by rw [← HND.out];exact hd2
    have KR:Hid (Calls Tryz.prog 129 #[.pointer (some ⟨g,0,none⟩)] w6 (fun e w' =>∃v5 v6 v8,e= .returned (.agg #[.int .u8 k, .int .u64 tx, .int .u64 pv, .int .i64 pg, .int .i64 of_,v5,v6, .int .u64 nx,v8, .bool op])∧Own w' w6.heap.size v5 bf∧Own w' w6.heap.size v6 af∧OwnDr w' w6.heap.size v8 dl∧RdrAt w w' g (lf,sh)∧w6.grownBy w' (some g)∧∀b,v5.ownBlock=some b→v6.ownBlock≠some b)):=hide KR0
    have HZ6:Hid (hz < w6.heap.size):=hide ZX6.out.lt
    have HW6:Hid (w.heap.size≤w6.heap.size):=hide X6.out.size
    clear KR0 hX6 hG6 hgg X2 ZX2
    go_upto_region 8 with (go_at_call 129;(with_reducible refine KR.out.mono ?_);rintro e w7 ⟨v5,v6,v8,rfl,ho5,ho6,ho8,hr7,hg7,hdj⟩;have O5:=hide ho5;have O6:=hide ho6;have O8:=hide ho8;have RD7:=hide hr7;have X7:Hid (Ext w w7):=hide (Below.grown X6.out hg7 X6.out.size (fun b hb=>by injection hb with hb;have:=HGW.out.1;omega));have ZX7:Hid (Rw w7 hz 95 [.int .u8 0, .int .u64 0, .int .u64 0, .int .i64 0, .int .i64 0, .slice none 0 0, .slice none 0 0, .int .u64 0, .slice none 0 0, .bool false]):=hide ((hg7.block hz ZX6.out.lt (fun e=>HGW.out.2 (by injection e))).trans ZX6.out);have S6:Hid (w6.heap.size≤w7.heap.size):=hide hg7.size;obtain ⟨A5,c5,hv5,-,-⟩:=ho5.bytes;obtain ⟨A6,c6,hv6,-,-⟩:=ho6.bytes;obtain ⟨A8,c8,hv8,-,hr8⟩:=ho8.slice;rw [HNB.out] at hv5;rw [HNA.out] at hv6;rw [HND.out] at hv8;subst hv5 hv6 hv8;have HR8:=hide hr8;have DJ:=hide hdj;clear hr8 ho5 ho6 ho8 hr7 hg7 hdj)
    clear KR
    obtain ⟨w8,hX8,hB8,hgg⟩:∃W,Ext w7 W∧Rw W w7.heap.size 95 [.int .u8 k, .int .u64 tx, .int .u64 pv, .int .i64 pg, .int .i64 of_, .slice A5 nb c5, .slice A6 na c6, .int .u64 nx, .slice A8 nd c8, .bool op]∧w7.alloc (.cells #[.int .u8 k, .int .u64 tx, .int .u64 pv, .int .i64 pg, .int .i64 of_, .slice A5 nb c5, .slice A6 na c6, .int .u64 nx, .slice A8 nd c8, .bool op] 95)=W:=⟨_,Ext.alloc _ _,Rw.new _ _ _,rfl⟩
    rw [hgg]
    obtain ⟨hb,HHB⟩:∃hb,Hid (w7.heap.size=hb):=⟨_,hide rfl⟩
    rw [HHB.out] at hB8 ⊢
    have X8:Hid (Ext w w8):=hide (X7.out.trans hX8)
    have E78:=hide hX8
    have ZX8:=hide (ZX7.out.ext hX8)
    have BX8:=hide hB8
    have HNZ:Hid (hz≠hb):=hide (by have:=ZX7.out.lt;have:=HHB.out;omega)
    obtain ⟨Al,cl,hrl,-,-⟩:=(RD7.out.ext hX8).out
    have hrl:Rw w8 g 174 [.slice Al lf.length cl, .bool sh]:=hrl
    rw [HPL.out] at hrl
    have c0:=hrl.cell (i:=0) rfl
    have c1:=hrl.cell (i:=1) rfl
    clear hX8 hB8 hgg hrl X7 ZX7 X6 ZX6 RD6
    cases sh with
    | true=>
     go_upto_region 9 with fail
     have z0:=ZX8.out.cell (i:=0) rfl
     have z1:=ZX8.out.cell (i:=1) rfl
     have z2:=ZX8.out.cell (i:=2) rfl
     have z3:=ZX8.out.cell (i:=3) rfl
     have z4:=ZX8.out.cell (i:=4) rfl
     have z5:=ZX8.out.cell (i:=5) rfl
     have z6:=ZX8.out.cell (i:=6) rfl
     have z7:=ZX8.out.cell (i:=7) rfl
     have z8:=ZX8.out.cell (i:=8) rfl
     have z9:=ZX8.out.cell (i:=9) rfl
     have f0:=ZX8.out.frozen 0
     have f1:=ZX8.out.frozen 1
     have f2:=ZX8.out.frozen 2
     have f3:=ZX8.out.frozen 3
     have f4:=ZX8.out.frozen 4
     have f5:=ZX8.out.frozen 5
     have f6:=ZX8.out.frozen 6
     have f7:=ZX8.out.frozen 7
     have f8:=ZX8.out.frozen 8
     have f9:=ZX8.out.frozen 9
     go_wp2
     have ZZ:=((((((((((ZX8.out.set 0 (.int .u8 0)).set 1 (.int .u64 0)).set 2 (.int .u64 0)).set 3 (.int .i64 0)).set 4 (.int .i64 0)).set 5 (.slice none 0 0)).set 6 (.slice none 0 0)).set 7 (.int .u64 0)).set 8 (.slice none 0 0)).set 9 (.bool false))
     have HS10:=sets_only hz [(0, .int .u8 0),(1, .int .u64 0),(2, .int .u64 0),(3, .int .i64 0),(4, .int .i64 0),(5, .slice none 0 0),(6, .slice none 0 0),(7, .int .u64 0),(8, .slice none 0 0),(9, .bool false)] w8
     simp only [List.foldl_cons,List.foldl_nil] at HS10
     obtain ⟨wz,hwz⟩:∃wz,((((((((((w8).setCell ⟨hz,0,none⟩ (.int .u8 0)).setCell ⟨hz,1,none⟩ (.int .u64 0)).setCell ⟨hz,2,none⟩ (.int .u64 0)).setCell ⟨hz,3,none⟩ (.int .i64 0)).setCell ⟨hz,4,none⟩ (.int .i64 0)).setCell ⟨hz,5,none⟩ (.slice none 0 0)).setCell ⟨hz,6,none⟩ (.slice none 0 0)).setCell ⟨hz,7,none⟩ (.int .u64 0)).setCell ⟨hz,8,none⟩ (.slice none 0 0)).setCell ⟨hz,9,none⟩ (.bool false)=wz:=⟨_,rfl⟩
     rw [hwz] at HS10 ZZ ⊢
     obtain ⟨q1,q2,q3,q4,hsame⟩:=HS10
     clear hwz
     have e0:=ZZ.cell (i:=0) rfl
     have e1:=ZZ.cell (i:=1) rfl
     have e2:=ZZ.cell (i:=2) rfl
     have e3:=ZZ.cell (i:=3) rfl
     have e4:=ZZ.cell (i:=4) rfl
     have e5:=ZZ.cell (i:=5) rfl
     have e6:=ZZ.cell (i:=6) rfl
     have e7:=ZZ.cell (i:=7) rfl
     have e8:=ZZ.cell (i:=8) rfl
     have e9:=ZZ.cell (i:=9) rfl
     have XZ:Ext w wz:=⟨q1.trans X8.out.os,q2.trans X8.out.tape,q3.trans X8.out.output,Nat.le_trans X8.out.size (Nat.le_of_eq q4.symm),fun b hb=>(hsame b (by have:=HZW.out;omega)).trans (X8.out.block b hb)⟩
     refine bodyPost_ret (v:= .tuple #[.agg #[.int .u8 0, .int .u64 0, .int .u64 0, .int .i64 0, .int .i64 0, .slice none 0 0, .slice none 0 0, .int .u64 0, .slice none 0 0, .bool false], .int .i64 3]) (by simp [results,Tryz.results105,go_sem,e0,e1,e2,e3,e4,e5,e6,e7,e8,e9];try rfl) rfl ?_
     exact DecP.no XZ (by rw [HDV.out,HQ.out,if_neg (by decide),if_neg (by rw [HRR.out];exact fun h=>(by cases h.1))]) rfl
    | false=>
     by_cases hp:pl=0
     ·have hpi:¬(0:Int) < (pl:Int):=by omega
      have hpn:¬0 < pl:=by omega
      obtain ⟨fb,HFB⟩:∃fb,Hid (formN k pv pg of_ nx na nb nd dl op=fb):=⟨_,hide rfl⟩
      have KF:=hide (fun (W:World) (hW:Ext w7 W)=>(show Calls Tryz.prog 121 #[.agg #[.int .u8 k, .int .u64 tx, .int .u64 pv, .int .i64 pg, .int .i64 of_, .slice A5 nb c5, .slice A6 na c6, .int .u64 nx, .slice A8 nd c8, .bool op]] W (RetB W fb) from by have h:=form_any k tx pv pg of_ nx A5 A6 A8 nb c5 na c6 nd c8 op W dl (HR8.out.ext hW) HND.out (by omega) (by omega) (by omega) (by omega) (by omega);rw [HFB.out] at h;exact h))
      have HFBB:Hid (formB ⟨k,tx,pv,pg,of_,bf,af,nx,dl,op⟩=fb):=hide (by rw [← HFB.out,← HNB.out,← HNA.out,← HND.out];rfl)
      have HLF:Hid (lf= []):=hide (List.length_eq_zero_iff.1 (by rw [HPL.out];exact hp))
      have y0:=BX8.out.cell (i:=0) rfl
      have y1:=BX8.out.cell (i:=1) rfl
      have y2:=BX8.out.cell (i:=2) rfl
      have y3:=BX8.out.cell (i:=3) rfl
      have y4:=BX8.out.cell (i:=4) rfl
      have y5:=BX8.out.cell (i:=5) rfl
      have y6:=BX8.out.cell (i:=6) rfl
      have y7:=BX8.out.cell (i:=7) rfl
      have y8:=BX8.out.cell (i:=8) rfl
      have y9:=BX8.out.cell (i:=9) rfl
      cases fb with
      | false=>
       go_upto_region 9 with (go_at_call 121;(with_reducible refine (KF.out _ E78.out).mono ?_);rintro e w9 ⟨rfl,hx9⟩;have X9:Hid (Ext w w9):=hide (X8.out.trans hx9);have E79:Hid (Ext w7 w9):=hide (E78.out.trans hx9);have ZX9:=hide (ZX8.out.ext hx9);have BX9:=hide (BX8.out.ext hx9);clear hx9)
       have z0:=ZX9.out.cell (i:=0) rfl
       have z1:=ZX9.out.cell (i:=1) rfl
       have z2:=ZX9.out.cell (i:=2) rfl
       have z3:=ZX9.out.cell (i:=3) rfl
       have z4:=ZX9.out.cell (i:=4) rfl
       have z5:=ZX9.out.cell (i:=5) rfl
       have z6:=ZX9.out.cell (i:=6) rfl
       have z7:=ZX9.out.cell (i:=7) rfl
       have z8:=ZX9.out.cell (i:=8) rfl
       have z9:=ZX9.out.cell (i:=9) rfl
       have f0:=ZX9.out.frozen 0
       have f1:=ZX9.out.frozen 1
       have f2:=ZX9.out.frozen 2
       have f3:=ZX9.out.frozen 3
       have f4:=ZX9.out.frozen 4
       have f5:=ZX9.out.frozen 5
       have f6:=ZX9.out.frozen 6
       have f7:=ZX9.out.frozen 7
       have f8:=ZX9.out.frozen 8
       have f9:=ZX9.out.frozen 9
       go_wp2
       have ZZ:=((((((((((ZX9.out.set 0 (.int .u8 0)).set 1 (.int .u64 0)).set 2 (.int .u64 0)).set 3 (.int .i64 0)).set 4 (.int .i64 0)).set 5 (.slice none 0 0)).set 6 (.slice none 0 0)).set 7 (.int .u64 0)).set 8 (.slice none 0 0)).set 9 (.bool false))
       have HS10:=sets_only hz [(0, .int .u8 0),(1, .int .u64 0),(2, .int .u64 0),(3, .int .i64 0),(4, .int .i64 0),(5, .slice none 0 0),(6, .slice none 0 0),(7, .int .u64 0),(8, .slice none 0 0),(9, .bool false)] w9
       simp only [List.foldl_cons,List.foldl_nil] at HS10
       obtain ⟨wz,hwz⟩:∃wz,((((((((((w9).setCell ⟨hz,0,none⟩ (.int .u8 0)).setCell ⟨hz,1,none⟩ (.int .u64 0)).setCell ⟨hz,2,none⟩ (.int .u64 0)).setCell ⟨hz,3,none⟩ (.int .i64 0)).setCell ⟨hz,4,none⟩ (.int .i64 0)).setCell ⟨hz,5,none⟩ (.slice none 0 0)).setCell ⟨hz,6,none⟩ (.slice none 0 0)).setCell ⟨hz,7,none⟩ (.int .u64 0)).setCell ⟨hz,8,none⟩ (.slice none 0 0)).setCell ⟨hz,9,none⟩ (.bool false)=wz:=⟨_,rfl⟩
       rw [hwz] at HS10 ZZ ⊢
       obtain ⟨q1,q2,q3,q4,hsame⟩:=HS10
       clear hwz
       have e0:=ZZ.cell (i:=0) rfl
       have e1:=ZZ.cell (i:=1) rfl
       have e2:=ZZ.cell (i:=2) rfl
       have e3:=ZZ.cell (i:=3) rfl
       have e4:=ZZ.cell (i:=4) rfl
       have e5:=ZZ.cell (i:=5) rfl
       have e6:=ZZ.cell (i:=6) rfl
       have e7:=ZZ.cell (i:=7) rfl
       have e8:=ZZ.cell (i:=8) rfl
       have e9:=ZZ.cell (i:=9) rfl
       have XZ:Ext w wz:=⟨q1.trans X9.out.os,q2.trans X9.out.tape,q3.trans X9.out.output,Nat.le_trans X9.out.size (Nat.le_of_eq q4.symm),fun b hb=>(hsame b (by have:=HZW.out;omega)).trans (X9.out.block b hb)⟩
       refine bodyPost_ret (v:= .tuple #[.agg #[.int .u8 0, .int .u64 0, .int .u64 0, .int .i64 0, .int .i64 0, .slice none 0 0, .slice none 0 0, .int .u64 0, .slice none 0 0, .bool false], .int .i64 3]) (by simp [results,Tryz.results105,go_sem,e0,e1,e2,e3,e4,e5,e6,e7,e8,e9];try rfl) rfl ?_
       exact DecP.no XZ (by rw [HDV.out,HQ.out,if_neg (by decide),if_neg (by rw [HRR.out];exact fun h=>(by have h2:=h.2;rw [HFBB.out] at h2;cases h2))]) rfl
      | true=>
       go_upto_region 10 with (go_at_call 121;(with_reducible refine (KF.out _ E78.out).mono ?_);rintro e w9 ⟨rfl,hx9⟩;have X9:Hid (Ext w w9):=hide (X8.out.trans hx9);have E79:Hid (Ext w7 w9):=hide (E78.out.trans hx9);have ZX9:=hide (ZX8.out.ext hx9);have BX9:=hide (BX8.out.ext hx9);clear hx9)
       clear y0 y1 y2 y3 y4 y5 y6 y7 y8 y9
       have y0:=BX9.out.cell (i:=0) rfl
       have y1:=BX9.out.cell (i:=1) rfl
       have y2:=BX9.out.cell (i:=2) rfl
       have y3:=BX9.out.cell (i:=3) rfl
       have y4:=BX9.out.cell (i:=4) rfl
       have y5:=BX9.out.cell (i:=5) rfl
       have y6:=BX9.out.cell (i:=6) rfl
       have y7:=BX9.out.cell (i:=7) rfl
       have y8:=BX9.out.cell (i:=8) rfl
       have y9:=BX9.out.cell (i:=9) rfl
       have z0:=ZX9.out.cell (i:=0) rfl
       have z1:=ZX9.out.cell (i:=1) rfl
       have z2:=ZX9.out.cell (i:=2) rfl
       have z3:=ZX9.out.cell (i:=3) rfl
       have z4:=ZX9.out.cell (i:=4) rfl
       have z5:=ZX9.out.cell (i:=5) rfl
       have z6:=ZX9.out.cell (i:=6) rfl
       have z7:=ZX9.out.cell (i:=7) rfl
       have z8:=ZX9.out.cell (i:=8) rfl
       have z9:=ZX9.out.cell (i:=9) rfl
       have f0:=ZX9.out.frozen 0
       have f1:=ZX9.out.frozen 1
       have f2:=ZX9.out.frozen 2
       have f3:=ZX9.out.frozen 3
       have f4:=ZX9.out.frozen 4
       have f5:=ZX9.out.frozen 5
       have f6:=ZX9.out.frozen 6
       have f7:=ZX9.out.frozen 7
       have f8:=ZX9.out.frozen 8
       have f9:=ZX9.out.frozen 9
       go_wp2
       have ZZ:=((((((((((ZX9.out.set 0 (.int .u8 k)).set 1 (.int .u64 tx)).set 2 (.int .u64 pv)).set 3 (.int .i64 pg)).set 4 (.int .i64 of_)).set 5 (.slice A5 nb c5)).set 6 (.slice A6 na c6)).set 7 (.int .u64 nx)).set 8 (.slice A8 nd c8)).set 9 (.bool op))
       have HS10:=sets_only hz [(0, .int .u8 k),(1, .int .u64 tx),(2, .int .u64 pv),(3, .int .i64 pg),(4, .int .i64 of_),(5, .slice A5 nb c5),(6, .slice A6 na c6),(7, .int .u64 nx),(8, .slice A8 nd c8),(9, .bool op)] w9
       simp only [List.foldl_cons,List.foldl_nil] at HS10
       obtain ⟨wz,hwz⟩:∃wz,((((((((((w9).setCell ⟨hz,0,none⟩ (.int .u8 k)).setCell ⟨hz,1,none⟩ (.int .u64 tx)).setCell ⟨hz,2,none⟩ (.int .u64 pv)).setCell ⟨hz,3,none⟩ (.int .i64 pg)).setCell ⟨hz,4,none⟩ (.int .i64 of_)).setCell ⟨hz,5,none⟩ (.slice A5 nb c5)).setCell ⟨hz,6,none⟩ (.slice A6 na c6)).setCell ⟨hz,7,none⟩ (.int .u64 nx)).setCell ⟨hz,8,none⟩ (.slice A8 nd c8)).setCell ⟨hz,9,none⟩ (.bool op)=wz:=⟨_,rfl⟩
       rw [hwz] at HS10 ZZ ⊢
       obtain ⟨q1,q2,q3,q4,hsame⟩:=HS10
       clear hwz
       have e0:=ZZ.cell (i:=0) rfl
       have e1:=ZZ.cell (i:=1) rfl
       have e2:=ZZ.cell (i:=2) rfl
       have e3:=ZZ.cell (i:=3) rfl
       have e4:=ZZ.cell (i:=4) rfl
       have e5:=ZZ.cell (i:=5) rfl
       have e6:=ZZ.cell (i:=6) rfl
       have e7:=ZZ.cell (i:=7) rfl
       have e8:=ZZ.cell (i:=8) rfl
       have e9:=ZZ.cell (i:=9) rfl
       have XZ:Ext w wz:=⟨q1.trans X9.out.os,q2.trans X9.out.tape,q3.trans X9.out.output,Nat.le_trans X9.out.size (Nat.le_of_eq q4.symm),fun b hb=>(hsame b (by have:=HZW.out;omega)).trans (X9.out.block b hb)⟩
       refine bodyPost_ret (v:= .tuple #[.agg #[.int .u8 k, .int .u64 tx, .int .u64 pv, .int .i64 pg, .int .i64 of_, .slice A5 nb c5, .slice A6 na c6, .int .u64 nx, .slice A8 nd c8, .bool op], .int .i64 0]) (by simp [results,Tryz.results105,go_sem,e0,e1,e2,e3,e4,e5,e6,e7,e8,e9];try rfl) rfl ?_
       have HV:decV l=(0,some ⟨k,tx,pv,pg,of_,bf,af,nx,dl,op⟩):=by
        rw [HDV.out,HQ.out,if_neg (by decide),if_pos (by rw [HRR.out];exact ⟨by rw [HLF.out],HFBB.out⟩),HRR.out]
       rw [HV]
       have hk:∀b,w6.heap.size≤b→b < w7.heap.size→wz.heap[b]? =w7.heap[b]? :=fun b h1 h2=>(hsame b (by have:=HZ6.out;omega)).trans (E79.out.block b h2)
       exact ⟨XZ,_,_,_,rfl,own_mono2 (O5.out.sameB hk) HW6.out,own_mono2 (O6.out.sameB hk) HW6.out,ownD_mono (O8.out.same (fun b hb=>hk b (O8.out.at b hb).1 (O8.out.at b hb).2)) HW6.out,DJ.out⟩
     ·have hpi:(0:Int) < (pl:Int):=by omega
      have hpn:0 < pl:=by omega
      go_upto_region 9 with fail
      have z0:=ZX8.out.cell (i:=0) rfl
      have z1:=ZX8.out.cell (i:=1) rfl
      have z2:=ZX8.out.cell (i:=2) rfl
      have z3:=ZX8.out.cell (i:=3) rfl
      have z4:=ZX8.out.cell (i:=4) rfl
      have z5:=ZX8.out.cell (i:=5) rfl
      have z6:=ZX8.out.cell (i:=6) rfl
      have z7:=ZX8.out.cell (i:=7) rfl
      have z8:=ZX8.out.cell (i:=8) rfl
      have z9:=ZX8.out.cell (i:=9) rfl
      have f0:=ZX8.out.frozen 0
      have f1:=ZX8.out.frozen 1
      have f2:=ZX8.out.frozen 2
      have f3:=ZX8.out.frozen 3
      have f4:=ZX8.out.frozen 4
      have f5:=ZX8.out.frozen 5
      have f6:=ZX8.out.frozen 6
      have f7:=ZX8.out.frozen 7
      have f8:=ZX8.out.frozen 8
      have f9:=ZX8.out.frozen 9
      go_wp2
      have ZZ:=((((((((((ZX8.out.set 0 (.int .u8 0)).set 1 (.int .u64 0)).set 2 (.int .u64 0)).set 3 (.int .i64 0)).set 4 (.int .i64 0)).set 5 (.slice none 0 0)).set 6 (.slice none 0 0)).set 7 (.int .u64 0)).set 8 (.slice none 0 0)).set 9 (.bool false))
      have HS10:=sets_only hz [(0, .int .u8 0),(1, .int .u64 0),(2, .int .u64 0),(3, .int .i64 0),(4, .int .i64 0),(5, .slice none 0 0),(6, .slice none 0 0),(7, .int .u64 0),(8, .slice none 0 0),(9, .bool false)] w8
      simp only [List.foldl_cons,List.foldl_nil] at HS10
      obtain ⟨wz,hwz⟩:∃wz,((((((((((w8).setCell ⟨hz,0,none⟩ (.int .u8 0)).setCell ⟨hz,1,none⟩ (.int .u64 0)).setCell ⟨hz,2,none⟩ (.int .u64 0)).setCell ⟨hz,3,none⟩ (.int .i64 0)).setCell ⟨hz,4,none⟩ (.int .i64 0)).setCell ⟨hz,5,none⟩ (.slice none 0 0)).setCell ⟨hz,6,none⟩ (.slice none 0 0)).setCell ⟨hz,7,none⟩ (.int .u64 0)).setCell ⟨hz,8,none⟩ (.slice none 0 0)).setCell ⟨hz,9,none⟩ (.bool false)=wz:=⟨_,rfl⟩
      rw [hwz] at HS10 ZZ ⊢
      obtain ⟨q1,q2,q3,q4,hsame⟩:=HS10
      clear hwz
      have e0:=ZZ.cell (i:=0) rfl
      have e1:=ZZ.cell (i:=1) rfl
      have e2:=ZZ.cell (i:=2) rfl
      have e3:=ZZ.cell (i:=3) rfl
      have e4:=ZZ.cell (i:=4) rfl
      have e5:=ZZ.cell (i:=5) rfl
      have e6:=ZZ.cell (i:=6) rfl
      have e7:=ZZ.cell (i:=7) rfl
      have e8:=ZZ.cell (i:=8) rfl
      have e9:=ZZ.cell (i:=9) rfl
      have XZ:Ext w wz:=⟨q1.trans X8.out.os,q2.trans X8.out.tape,q3.trans X8.out.output,Nat.le_trans X8.out.size (Nat.le_of_eq q4.symm),fun b hb=>(hsame b (by have:=HZW.out;omega)).trans (X8.out.block b hb)⟩
      refine bodyPost_ret (v:= .tuple #[.agg #[.int .u8 0, .int .u64 0, .int .u64 0, .int .i64 0, .int .i64 0, .slice none 0 0, .slice none 0 0, .int .u64 0, .slice none 0 0, .bool false], .int .i64 3]) (by simp [results,Tryz.results105,go_sem,e0,e1,e2,e3,e4,e5,e6,e7,e8,e9];try rfl) rfl ?_
      exact DecP.no XZ (by rw [HDV.out,HQ.out,if_neg (by decide),if_neg (by rw [HRR.out];exact fun h=>hp (by have h1:=congrArg Prod.fst h.1;have h1:lf= []:=h1;rw [← HPL.out,h1];rfl))]) rfl
theorem owndr_slice {w:World} {B:Nat} {v:Value} {l:List (Int×Int)} (h:OwnDr w B v l):∃A c,v= .slice A l.length c:=by
 rcases h.2 with ⟨hn,h0⟩ | ⟨g,cap,cur,hv,-⟩
 ·exact ⟨none,0,by rw [hn,h0]⟩
 ·exact ⟨_,_,hv⟩
theorem owndr_low {w:World} {B B':Nat} {v:Value} {l:List (Int×Int)} (h:OwnDr w B v l) (hB:B'≤B):OwnDr w B' v l:=by
 refine ⟨h.1, ?_⟩
 rcases h.2 with hn | ⟨g,cap,cur,hv,hb,rest⟩
 ·exact .inl hn
 ·exact .inr ⟨g,cap,cur,hv,Nat.le_trans hB hb,rest⟩
theorem owndr_block {w:World} {B:Nat} {v:Value} {l:List (Int×Int)} (h:OwnDr w B v l) (k:Nat) (hk:v.ownBlock=some k):B≤k∧k < w.heap.size:=by
 rcases h.2 with ⟨hn,-⟩ | ⟨g,cap,cur,hv,hb,hg,-⟩
 ·rw [hn] at hk;cases hk
 ·rw [hv] at hk
  have e:g=k:=by simpa [Value.ownBlock] using hk
  subst e
  exact ⟨hb,(Array.getElem?_eq_some_iff.1 hg).1⟩
theorem box10 {wa w:World} {b:Nat} {t:TypeId} {u0 u1 u2 u3 u4 u5 u6 u7 u8 u9 v0 v1 v2 v3 v4 v5 v6 v7 v8 v9:Value} (hr:Rw w b t [u0,u1,u2,u3,u4,u5,u6,u7,u8,u9]) (hx:Ext wa w) (hb:wa.heap.size≤b):
  Rw ((((((((((w.setCell ⟨b,0,none⟩ v0).setCell ⟨b,1,none⟩ v1).setCell ⟨b,2,none⟩ v2).setCell ⟨b,3,none⟩ v3).setCell ⟨b,4,none⟩ v4).setCell ⟨b,5,none⟩ v5).setCell ⟨b,6,none⟩ v6).setCell ⟨b,7,none⟩ v7).setCell ⟨b,8,none⟩ v8).setCell ⟨b,9,none⟩ v9) b t [v0,v1,v2,v3,v4,v5,v6,v7,v8,v9]∧Ext wa ((((((((((w.setCell ⟨b,0,none⟩ v0).setCell ⟨b,1,none⟩ v1).setCell ⟨b,2,none⟩ v2).setCell ⟨b,3,none⟩ v3).setCell ⟨b,4,none⟩ v4).setCell ⟨b,5,none⟩ v5).setCell ⟨b,6,none⟩ v6).setCell ⟨b,7,none⟩ v7).setCell ⟨b,8,none⟩ v8).setCell ⟨b,9,none⟩ v9):=
 ⟨((((((((((hr.set 0 v0).set 1 v1).set 2 v2).set 3 v3).set 4 v4).set 5 v5).set 6 v6).set 7 v7).set 8 v8).set 9 v9),Below.setCell (p:=⟨b,9,none⟩) (Below.setCell (p:=⟨b,8,none⟩) (Below.setCell (p:=⟨b,7,none⟩) (Below.setCell (p:=⟨b,6,none⟩) (Below.setCell (p:=⟨b,5,none⟩) (Below.setCell (p:=⟨b,4,none⟩) (Below.setCell (p:=⟨b,3,none⟩) (Below.setCell (p:=⟨b,2,none⟩) (Below.setCell (p:=⟨b,1,none⟩) (Below.setCell (p:=⟨b,0,none⟩) (hx) hb _) hb _) hb _) hb _) hb _) hb _) hb _) hb _) hb _) hb _⟩
def recA (r:Rec) (v5 v6 v8:Value):List Value:= [.int .u8 r.k, .int .u64 r.tx, .int .u64 r.pv, .int .i64 r.pg, .int .i64 r.off,v5,v6, .int .u64 r.nx,v8, .bool r.op]
section
variable {w0 w w1 w2 w':World} {Z Z' Z1:Pk} {s c:Nat} {S S' S1 S2:St} {R R' R1 R2:Sr} {H:List UInt8}
def SrdP (w:World) (x:Nat) (b:List UInt8) (r:Rec) (e:Ending) (w':World):Prop:=∃A5 n5 c5 A6 n6 c6 A8 n8 c8,e= .returned (.tuple #[.agg (recA r (.slice A5 n5 c5) (.slice A6 n6 c6) (.slice A8 n8 c8)).toArray, .int .u64 ((x + 2 + b.length:Nat):Int), .int .i64 0])∧Own w' w.heap.size (.slice A5 n5 c5) r.bf∧Own w' w.heap.size (.slice A6 n6 c6) r.af∧OwnDr w' w.heap.size (.slice A8 n8 c8) r.dl∧n5=r.bf.length∧n6=r.af.length∧n8=r.dl.length∧Ext w w'
theorem sread_rec (h:StoAt w0 w Z s S R) (rg:Rg S.D S.L H) (x:Nat) (b rest:List UInt8) (hf:S.L.hd.fi≤x) (hp:RecOk b) (hH:H.drop x=frm b ++ rest) (r:Rec) (hd:decV b=(0,some r)) (hT:Tab w0):
  Calls Tryz.prog 68 #[.pointer (some ⟨s,0,none⟩), .int .u64 (x:Int)] w (SrdP w x b r):=by
 have HT:=hide hT
 have KR:=hide (fun (W:World) (hW:Ext w W)=>read_recC (h.ext_ hW).pool.log rg x b rest hf hp hH hT)
 have KD:Hid (∀(A:Option Addr) (n cc:Nat) W,Ext w W→n≤cc→n=b.length→Rd W A b→Calls Tryz.prog 105 #[.slice A n cc] W (fun e w' =>∃A5 n5 c5 A6 n6 c6 A8 n8 c8,e= .returned (.tuple #[.agg #[.int .u8 r.k, .int .u64 r.tx, .int .u64 r.pv, .int .i64 r.pg, .int .i64 r.off, .slice A5 n5 c5, .slice A6 n6 c6, .int .u64 r.nx, .slice A8 n8 c8, .bool r.op], .int .i64 0])∧(Own w' W.heap.size (.slice A5 n5 c5) r.bf∧Own w' W.heap.size (.slice A6 n6 c6) r.af∧OwnDr w' W.heap.size (.slice A8 n8 c8) r.dl∧n5=r.bf.length∧n6=r.af.length∧n8=r.dl.length)∧Ext W w')):=hide (fun A n cc W hW hnc hn hr=>by
  have k:=decode_any A b n cc W hr hn.symm hnc (by have:=hp.2;omega) (hT.ext (h.pool.log.ext.trans hW))
  rw [hd] at k
  refine k.mono fun e w' hh=> ?_
  obtain ⟨hx,v5,v6,v8,e1,o5,o6,o8,-⟩:=hh
  obtain ⟨A5,c5,rfl,-,-⟩:=o5.bytes
  obtain ⟨A6,c6,rfl,-,-⟩:=o6.bytes
  obtain ⟨A8,c8,rfl⟩:=owndr_slice o8
  exact ⟨A5,_,c5,A6,_,c6,A8,_,c8,e1,⟨o5,o6,o8,rfl,rfl,rfl⟩,hx⟩)
 have c1:=h.blk.cell (i:=1) rfl
 have H1:=hide h
 obtain ⟨y,HY⟩:∃y:Int,Hid (((x + 2 + b.length:Nat):Int)=y):=⟨_,hide rfl⟩
 obtain ⟨bl,HBL⟩:∃bl,Hid (b.length=bl):=⟨_,hide rfl⟩
 unfold SrdP
 rw [HY.out] at KR ⊢
 rw [HBL.out] at KR KD
 clear h rg hf hp hH hd hT
 have HX0:Hid (Ext w (w.alloc (.cells #[.int .u8 0, .int .u64 0, .int .u64 0, .int .i64 0, .int .i64 0, .slice none 0 0, .slice none 0 0, .int .u64 0, .slice none 0 0, .bool false] 95))):=hide (Ext.alloc _ _)
 have HG0:Hid (Rw (w.alloc (.cells #[.int .u8 0, .int .u64 0, .int .u64 0, .int .i64 0, .int .i64 0, .slice none 0 0, .slice none 0 0, .int .u64 0, .slice none 0 0, .bool false] 95)) w.heap.size 95 [.int .u8 0, .int .u64 0, .int .u64 0, .int .i64 0, .int .i64 0, .slice none 0 0, .slice none 0 0, .int .u64 0, .slice none 0 0, .bool false]):=hide (Rw.new w 95 [.int .u8 0, .int .u64 0, .int .u64 0, .int .i64 0, .int .i64 0, .slice none 0 0, .slice none 0 0, .int .u64 0, .slice none 0 0, .bool false])
 have c1b:=(H1.out.ext_ HX0.out).blk.cell (i:=1) rfl
 go_enter Tryz.func68,Tryz.ntmps68
 go_upto_region 4 with (go_at_call 104;(with_reducible refine (KR.out _ HX0.out).mono ?_);rintro e2 w2 ⟨A2,cc2,rfl,hr2,hx2,hc2⟩;have HR2:=hide hr2;have HX2:=hide hx2;have KD2:=hide (KD.out A2 bl cc2 w2 (HX0.out.trans hx2) hc2 rfl hr2);clear hr2 hx2 hc2)
 go_upto_region 5 with (go_at_call 105;(with_reducible refine KD2.out.mono ?_);rintro e3 w3 ⟨A5,n5,c5,A6,n6,c6,A8,n8,c8,rfl,ho,hx3⟩;have HO:=hide ho;have HX3:=hide hx3;clear ho hx3)
 have HX3A:Hid (Ext w2 (w3.alloc (.cells #[.int .u8 r.k, .int .u64 r.tx, .int .u64 r.pv, .int .i64 r.pg, .int .i64 r.off, .slice A5 n5 c5, .slice A6 n6 c6, .int .u64 r.nx, .slice A8 n8 c8, .bool r.op] 95))):=hide (HX3.out.trans (Ext.alloc _ _))
 have HBX:Hid (Rw (w3.alloc (.cells #[.int .u8 r.k, .int .u64 r.tx, .int .u64 r.pv, .int .i64 r.pg, .int .i64 r.off, .slice A5 n5 c5, .slice A6 n6 c6, .int .u64 r.nx, .slice A8 n8 c8, .bool r.op] 95)) w3.heap.size 95 [.int .u8 r.k, .int .u64 r.tx, .int .u64 r.pv, .int .i64 r.pg, .int .i64 r.off, .slice A5 n5 c5, .slice A6 n6 c6, .int .u64 r.nx, .slice A8 n8 c8, .bool r.op]):=hide (Rw.new w3 95 [.int .u8 r.k, .int .u64 r.tx, .int .u64 r.pv, .int .i64 r.pg, .int .i64 r.off, .slice A5 n5 c5, .slice A6 n6 c6, .int .u64 r.nx, .slice A8 n8 c8, .bool r.op])
 have HSZ:Hid (w.heap.size < w3.heap.size):=hide (by have h1:=HG0.out.lt;have h2:=HX2.out.size;have h3:=HX3.out.size;omega)
 have HG4:Hid (Rw (w3.alloc (.cells #[.int .u8 r.k, .int .u64 r.tx, .int .u64 r.pv, .int .i64 r.pg, .int .i64 r.off, .slice A5 n5 c5, .slice A6 n6 c6, .int .u64 r.nx, .slice A8 n8 c8, .bool r.op] 95)) w.heap.size 95 [.int .u8 0, .int .u64 0, .int .u64 0, .int .i64 0, .int .i64 0, .slice none 0 0, .slice none 0 0, .int .u64 0, .slice none 0 0, .bool false]):=hide (HG0.out.ext (HX2.out.trans HX3A.out))
 have HN4:¬w3.heap.size=w.heap.size:=by have:=HSZ.out;omega
 have HN5:¬w.heap.size=w3.heap.size:=by have:=HSZ.out;omega
 have HXW:Hid (Ext w (w3.alloc (.cells #[.int .u8 r.k, .int .u64 r.tx, .int .u64 r.pv, .int .i64 r.pg, .int .i64 r.off, .slice A5 n5 c5, .slice A6 n6 c6, .int .u64 r.nx, .slice A8 n8 c8, .bool r.op] 95))):=hide ((HX0.out.trans HX2.out).trans HX3A.out)
 obtain ⟨w4,hw4⟩:∃w4,w3.alloc (.cells #[.int .u8 r.k, .int .u64 r.tx, .int .u64 r.pv, .int .i64 r.pg, .int .i64 r.off, .slice A5 n5 c5, .slice A6 n6 c6, .int .u64 r.nx, .slice A8 n8 c8, .bool r.op] 95)=w4:=⟨_,rfl⟩
 obtain ⟨g3,HG3⟩:∃g3,Hid (w3.heap.size=g3):=⟨_,hide rfl⟩
 obtain ⟨gr,HGR⟩:∃gr,Hid (w.heap.size=gr):=⟨_,hide rfl⟩
 have HW4:Hid (∀k,k < w3.heap.size→w4.heap[k]? =w3.heap[k]?):=hide (fun k hk=>by rw [← hw4];exact Below.block (Ext.alloc w3 _) k hk)
 have HSZ2:Hid (w.heap.size < w2.heap.size):=hide (by have h1:=HG0.out.lt;have h2:=HX2.out.size;omega)
 rw [hw4] at HBX HG4 HXW ⊢
 rw [HG3.out,HGR.out] at HN4 HN5 ⊢
 rw [HG3.out] at HBX
 rw [HGR.out] at HG4
 clear hw4 c1 c1b
 have k0:=HBX.out.cell (i:=0) rfl
 have k1:=HBX.out.cell (i:=1) rfl
 have k2:=HBX.out.cell (i:=2) rfl
 have k3:=HBX.out.cell (i:=3) rfl
 have k4:=HBX.out.cell (i:=4) rfl
 have k5:=HBX.out.cell (i:=5) rfl
 have k6:=HBX.out.cell (i:=6) rfl
 have k7:=HBX.out.cell (i:=7) rfl
 have k8:=HBX.out.cell (i:=8) rfl
 have k9:=HBX.out.cell (i:=9) rfl
 have l0:=HG4.out.cell (i:=0) rfl
 have l1:=HG4.out.cell (i:=1) rfl
 have l2:=HG4.out.cell (i:=2) rfl
 have l3:=HG4.out.cell (i:=3) rfl
 have l4:=HG4.out.cell (i:=4) rfl
 have l5:=HG4.out.cell (i:=5) rfl
 have l6:=HG4.out.cell (i:=6) rfl
 have l7:=HG4.out.cell (i:=7) rfl
 have l8:=HG4.out.cell (i:=8) rfl
 have l9:=HG4.out.cell (i:=9) rfl
 have z0:=HG4.out.frozen 0
 have z1:=HG4.out.frozen 1
 have z2:=HG4.out.frozen 2
 have z3:=HG4.out.frozen 3
 have z4:=HG4.out.frozen 4
 have z5:=HG4.out.frozen 5
 have z6:=HG4.out.frozen 6
 have z7:=HG4.out.frozen 7
 have z8:=HG4.out.frozen 8
 have z9:=HG4.out.frozen 9
 obtain ⟨q1,q2⟩:=box10 (v0:= .int .u8 r.k) (v1:= .int .u64 r.tx) (v2:= .int .u64 r.pv) (v3:= .int .i64 r.pg) (v4:= .int .i64 r.off) (v5:= .slice A5 n5 c5) (v6:= .slice A6 n6 c6) (v7:= .int .u64 r.nx) (v8:= .slice A8 n8 c8) (v9:= .bool r.op) HG4.out HXW.out (Nat.le_of_eq HGR.out)
 have HQ1:=hide q1
 have HQ2:=hide q2
 clear q1 q2
 go_wp2
 clear k0 k1 k2 k3 k4 k5 k6 k7 k8 k9 l0 l1 l2 l3 l4 l5 l6 l7 l8 l9 z0 z1 z2 z3 z4 z5 z6 z7 z8 z9 HN4 HN5
 have HXF:Hid (∀k,w2.heap.size≤k→k < w3.heap.size→((((((((((w4.setCell ⟨gr,0,none⟩ (.int .u8 r.k)).setCell ⟨gr,1,none⟩ (.int .u64 r.tx)).setCell ⟨gr,2,none⟩ (.int .u64 r.pv)).setCell ⟨gr,3,none⟩ (.int .i64 r.pg)).setCell ⟨gr,4,none⟩ (.int .i64 r.off)).setCell ⟨gr,5,none⟩ (.slice A5 n5 c5)).setCell ⟨gr,6,none⟩ (.slice A6 n6 c6)).setCell ⟨gr,7,none⟩ (.int .u64 r.nx)).setCell ⟨gr,8,none⟩ (.slice A8 n8 c8)).setCell ⟨gr,9,none⟩ (.bool r.op)).heap[k]? =w3.heap[k]?):=hide (fun k hk hk2=>by
  have hne:k≠gr:=by have h1:=HX2.out.size;have h2:=HGR.out;have h3:=HSZ2.out;omega
  exact (Below.heap_setCell _ ⟨gr,9,none⟩ _ k hne).trans ((Below.heap_setCell _ ⟨gr,8,none⟩ _ k hne).trans ((Below.heap_setCell _ ⟨gr,7,none⟩ _ k hne).trans ((Below.heap_setCell _ ⟨gr,6,none⟩ _ k hne).trans ((Below.heap_setCell _ ⟨gr,5,none⟩ _ k hne).trans ((Below.heap_setCell _ ⟨gr,4,none⟩ _ k hne).trans ((Below.heap_setCell _ ⟨gr,3,none⟩ _ k hne).trans ((Below.heap_setCell _ ⟨gr,2,none⟩ _ k hne).trans ((Below.heap_setCell _ ⟨gr,1,none⟩ _ k hne).trans ((Below.heap_setCell _ ⟨gr,0,none⟩ _ k hne).trans (HW4.out k hk2)))))))))))
 obtain ⟨wz,hwz⟩:∃wz,((((((((((w4.setCell ⟨gr,0,none⟩ (.int .u8 r.k)).setCell ⟨gr,1,none⟩ (.int .u64 r.tx)).setCell ⟨gr,2,none⟩ (.int .u64 r.pv)).setCell ⟨gr,3,none⟩ (.int .i64 r.pg)).setCell ⟨gr,4,none⟩ (.int .i64 r.off)).setCell ⟨gr,5,none⟩ (.slice A5 n5 c5)).setCell ⟨gr,6,none⟩ (.slice A6 n6 c6)).setCell ⟨gr,7,none⟩ (.int .u64 r.nx)).setCell ⟨gr,8,none⟩ (.slice A8 n8 c8)).setCell ⟨gr,9,none⟩ (.bool r.op))=wz:=⟨_,rfl⟩
 rw [hwz] at HQ1 HQ2 HXF ⊢
 clear hwz
 have d0:=HQ1.out.cell (i:=0) rfl
 have d1:=HQ1.out.cell (i:=1) rfl
 have d2:=HQ1.out.cell (i:=2) rfl
 have d3:=HQ1.out.cell (i:=3) rfl
 have d4:=HQ1.out.cell (i:=4) rfl
 have d5:=HQ1.out.cell (i:=5) rfl
 have d6:=HQ1.out.cell (i:=6) rfl
 have d7:=HQ1.out.cell (i:=7) rfl
 have d8:=HQ1.out.cell (i:=8) rfl
 have d9:=HQ1.out.cell (i:=9) rfl
 refine bodyPost_ret (by simp [results,Tryz.results68,go_sem,d0,d1,d2,d3,d4,d5,d6,d7,d8,d9];try rfl) rfl ?_
 exact ⟨A5,n5,c5,A6,n6,c6,A8,n8,c8,rfl,(HO.out.1.keep1 (fun k hk=>HXF.out k (own_block HO.out.1 k hk).1 (own_block HO.out.1 k hk).2.1)).low (Nat.le_of_lt HSZ2.out),(HO.out.2.1.keep1 (fun k hk=>HXF.out k (own_block HO.out.2.1 k hk).1 (own_block HO.out.2.1 k hk).2.1)).low (Nat.le_of_lt HSZ2.out),owndr_low (HO.out.2.2.1.same (fun k hk=>HXF.out k (owndr_block HO.out.2.2.1 k hk).1 (owndr_block HO.out.2.2.1 k hk).2)) (Nat.le_of_lt HSZ2.out),HO.out.2.2.2.1,HO.out.2.2.2.2.1,HO.out.2.2.2.2.2,HQ2.out⟩
end
section
variable {w0 w:World} {s q:Nat}
theorem seach_lost (ca cb:Value) (n:Nat) (pl:Nat→Nat) (rc:Nat→Rec) (P:Nat→World→Prop) (Q:Nat→Option Addr→Nat→Nat→Option Addr→Nat→Nat→Option Addr→Nat→Nat→World→Prop)
  (hP:∀j W,P j W→∃Z S R,StoAt w0 W Z s S R∧S.L.Ok S.D∧endOf S.L=pl n∧Z.X.q=q)
  (hPx:∀j W W',P j W→Ext W W'→P j W')
  (hQx:∀j A5 n5 c5 A6 n6 c6 A8 n8 c8 W W',Q j A5 n5 c5 A6 n6 c6 A8 n8 c8 W→Ext W W'→Q j A5 n5 c5 A6 n6 c6 A8 n8 c8 W')
  (hm:∀j,j < n→pl j < pl (j + 1)) (hb:pl n < 1000000000000) (hmon:∀j,j≤n→pl j≤pl n)
  (KR:∀j W,j < n→P j W→Calls Tryz.prog 68 #[.pointer (some ⟨s,0,none⟩), .int .u64 (pl j:Int)] W (fun e w' =>∃A5 n5 c5 A6 n6 c6 A8 n8 c8,e= .returned (.tuple #[.agg #[.int .u8 (rc j).k, .int .u64 (rc j).tx, .int .u64 (rc j).pv, .int .i64 (rc j).pg, .int .i64 (rc j).off, .slice A5 n5 c5, .slice A6 n6 c6, .int .u64 (rc j).nx, .slice A8 n8 c8, .bool (rc j).op], .int .u64 (pl (j + 1):Int), .int .i64 0])∧Q j A5 n5 c5 A6 n6 c6 A8 n8 c8 w'))
  (KC:∀j A5 n5 c5 A6 n6 c6 A8 n8 c8 W,j < n→Q j A5 n5 c5 A6 n6 c6 A8 n8 c8 W→Calls Tryz.prog 93 #[.int .u64 (pl j:Int), .agg #[.int .u8 (rc j).k, .int .u64 (rc j).tx, .int .u64 (rc j).pv, .int .i64 (rc j).pg, .int .i64 (rc j).off, .slice A5 n5 c5, .slice A6 n6 c6, .int .u64 (rc j).nx, .slice A8 n8 c8, .bool (rc j).op],ca,cb] W (fun e w' =>e= .returned (.int .i64 0)∧P (j + 1) w'))
  (h0:P 0 w):
  Calls Tryz.prog 92 #[.pointer (some ⟨s,0,none⟩), .int .u64 (pl 0:Int), .func (.func 93) #[] #[ca,cb]] w (fun e w' =>e= .returned (.int .i64 0)∧P n w'):=by
 have HP:=hide hP
 have HPX:=hide hPx
 have HQX:=hide hQx
 have HM:=hide hm
 have HB:=hide hb
 have HMO:=hide hmon
 have HKR:=hide KR
 have HKC:=hide KC
 have H0:=hide h0
 obtain ⟨pn,HPN⟩:∃pn,Hid (pl n=pn):=⟨_,hide rfl⟩
 clear hP hPx hQx hm hb hmon KR KC h0
 go_enter Tryz.func92,Tryz.ntmps92
 go_upto_region 1 with fail
 go_loopw [1] (fun av wr=>∃j:Nat,av= .int .u64 (pl j:Int)∧Hid (j≤n)∧Hid (P j wr)) (fun av _=>pn - (intOf av).toNat)
 case atStart=>exact ⟨0,rfl,hide (Nat.zero_le _),H0⟩
 case round=>
  obtain ⟨j,rfl,HJ,HPJ⟩:=hrel
  obtain ⟨Z,S,R,h1,h2,h3,h4⟩:=HP.out j wr HPJ.out
  have KE:Hid (Calls Tryz.prog 75 #[.pointer (some ⟨q,0,none⟩)] wr (fun e w' =>e= .returned (.int .u64 (pn:Int))∧Ext wr w')):=hide ((by
   have k:=end_any h1.pool.log h2
   rw [h3,h4,HPN.out] at k
   exact k.mono fun _ _ hh=>⟨hh.1,by obtain ⟨m,hm⟩:=hh.2;rw [hm];exact (Ext.refl _).drewN m⟩))
  have c1:=h1.blk.cell (i:=1) rfl
  rw [h4] at c1
  clear h1 h2 h3 h4
  obtain ⟨x,HX⟩:∃x,Hid (pl j=x):=⟨_,hide rfl⟩
  rw [HX.out]
  by_cases hj:j < n
  ·have hlt:(x:Int) < (pn:Int):=by have h1:=HM.out j hj;have h2:=HMO.out (j + 1) hj;have:=HX.out;have:=HPN.out;omega
   have HJN:=hide hj
   obtain ⟨x2,HX2⟩:∃x2,Hid (pl (j + 1)=x2):=⟨_,hide rfl⟩
   have KRJ:=hide (fun W hW=>HKR.out j W hj (HPX.out j wr W HPJ.out hW))
   have KCJ:=hide (fun A5 n5 c5 A6 n6 c6 A8 n8 c8 W hW=>HKC.out j A5 n5 c5 A6 n6 c6 A8 n8 c8 W hj hW)
   rw [HX.out,HX2.out] at KRJ
   rw [HX.out] at KCJ
   have HQJ:=hide (fun A5 n5 c5 A6 n6 c6 A8 n8 c8 W W' =>HQX.out j A5 n5 c5 A6 n6 c6 A8 n8 c8 W W')
   obtain ⟨rk,HRK⟩:∃rk,Hid (rc j=rk):=⟨_,hide rfl⟩
   rw [HRK.out] at KRJ KCJ
   have HLT:=hide hlt
   clear hj
   go_wp2_with (first
    | (go_at_call 75;(with_reducible refine KE.out.mono ?_);rintro e2 w2 ⟨rfl,hx2⟩;have HXE:=hide hx2;clear hx2)
    | (go_at_call 68;(with_reducible refine (KRJ.out w2 HXE.out).mono ?_);rintro e3 w3 ⟨A5,n5,c5,A6,n6,c6,A8,n8,c8,rfl,hq3⟩;have HQ3:=hide hq3;have HQ4:=hide (HQJ.out A5 n5 c5 A6 n6 c6 A8 n8 c8 w3 _ hq3 (Ext.alloc w3 (.cells #[.int .u8 rk.k, .int .u64 rk.tx, .int .u64 rk.pv, .int .i64 rk.pg, .int .i64 rk.off, .slice A5 n5 c5, .slice A6 n6 c6, .int .u64 rk.nx, .slice A8 n8 c8, .bool rk.op] 95)));clear hq3)
    | (go_at_call 93;(with_reducible refine (KCJ.out A5 n5 c5 A6 n6 c6 A8 n8 c8 _ HQ4.out).mono ?_);rintro e5 w5 ⟨rfl,hp5⟩;have HP5:=hide hp5;clear hp5))
   refine ⟨⟨j + 1,by rw [HX2.out],hide (by have:=HJN.out;omega),HP5⟩, ?_⟩
   show pn - ((x2:Nat):Int).toNat < pn - ((x:Nat):Int).toNat
   have h1:=HM.out j HJN.out
   have:=HX.out
   have:=HX2.out
   have:=HLT.out
   omega
  ·have hje:j=n:=by have:=HJ.out;omega
   have hlt:¬(x:Int) < (pn:Int):=by have e1:=HX.out;rw [hje] at e1;have:=HPN.out;omega
   have HPF:Hid (∀W,Ext wr W→P n W):=hide (fun W hW=>by rw [← hje];exact HPX.out j wr W HPJ.out hW)
   clear hj hje
   go_wp2_with (go_at_call 75;(with_reducible refine KE.out.mono ?_);rintro e2 w2 ⟨rfl,hx2⟩;have HXE:=hide hx2;clear hx2)
   go_ret
   exact ⟨rfl,HPF.out _ HXE.out⟩
end
def sinM (m:Nat→Option Nat):Nat→Option (DataW Unit):=fun i=>(m i).map fun t=> .lit (.int .u64 (t:Int))
structure LoSt (w0 w:World) (Z:Pk) (s:Nat) (S:St) (R:Sr) (bv bm mb:Nat) (m:Nat→Option Nat) (n:Nat):Prop where
 sto:StoAt w0 w Z s S R
 sv:Rw w bv 29 [.pointer (some ⟨s,0,none⟩)]
 mv:Rw w bm 86 [.map (some mb)]
 map:MapI w u64R mb (sinM m) n
 out:¬Z.has S.P mb∧mb≠s∧w0.heap.size≤mb
def lostR (R:Sr) (at_:Nat) (r:Rec):Sr:=if r.k=1∨r.k=2∨r.k=3 then { R with op:=true,number:=r.tx.toNat,first:=0,last:=at_ } else { R with op:=false,number:=0,first:=0,last:=0 }
def isCh (r:Rec):Bool:=decide (r.k=2) || decide (r.k=3)
def lostM (m:Nat→Option Nat) (at_:Nat) (r:Rec):Nat→Option Nat:=if isCh r=true∧(m r.pg.toNat).isSome=false then upM m r.pg.toNat (some at_) else m
section
variable {w0 w w':World} {Z:Pk} {s bv bm mb n:Nat} {S:St} {R:Sr} {m:Nat→Option Nat}
theorem LoSt.ext_ (h:LoSt w0 w Z s S R bv bm mb m n) (hx:Ext w w'):LoSt w0 w' Z s S R bv bm mb m n:=⟨h.sto.ext_ hx,h.sv.ext hx,h.mv.ext hx,h.map.keep (Below.block hx mb h.map.lt),h.out⟩
theorem LoSt.put (h:LoSt w0 w Z s S R bv bm mb m n) (i:Nat) (v:Value) (R':Sr) (hv:(srC Z R).set i v=srC Z R'):LoSt w0 (w.setCell ⟨s,i,none⟩ v) Z s S R' bv bm mb m n:=by
 have ho:∀k,k≠s→(w.setCell ⟨s,i,none⟩ v).heap[k]? =w.heap[k]? :=fun k hk=>Below.heap_setCell w ⟨s,i,none⟩ v k hk
 exact ⟨h.sto.put i v R' hv,(ho bv (h.sv.apart h.sto.blk (by decide))).trans h.sv,(ho bm (h.mv.apart h.sto.blk (by decide))).trans h.mv,h.map.keep (ho mb h.out.2.1),h.out⟩
theorem schanges_any (v1 v2 v3 v4 v5 v6 v7 v8 v9:Value) (k:Int) (w:World):Calls Tryz.prog 94 #[.agg #[.int .u8 k,v1,v2,v3,v4,v5,v6,v7,v8,v9]] w (fun e w' =>e= .returned (.bool (decide (k=2) || decide (k=3)))∧Ext w w'):=by
 by_cases h2:k=2
 ·subst h2
  go_enter Tryz.func94,Tryz.ntmps94
  go_wp2
  go_ret
  exact ⟨rfl,Ext.alloc _ _⟩
 ·by_cases h3:k=3
  ·subst h3
   go_enter Tryz.func94,Tryz.ntmps94
   go_wp2
   go_ret
   exact ⟨rfl,Ext.alloc _ _⟩
  ·have e2:(k==2)=false:=by simpa using h2
   have e3:(k==3)=false:=by simpa using h3
   rw [decide_eq_false h2,decide_eq_false h3]
   clear h2 h3
   go_enter Tryz.func94,Tryz.ntmps94
   go_wp2
   go_ret
   exact ⟨rfl,Ext.alloc _ _⟩
end
section
variable {w0 w w':World} {Z:Pk} {s bv bm mb n:Nat} {S:St} {R:Sr} {m:Nat→Option Nat}
theorem LoSt.turned {m':Nat→Option Nat} {n':Nat} (h:LoSt w0 w Z s S R bv bm mb m n) (hm:MapI w' u64R mb (sinM m') n') (ht:w.mapTurned w' mb):LoSt w0 w' Z s S R bv bm mb m' n':=by
 have ho:=mapTurned_other ht
 obtain ⟨q1,q2,q3,q4⟩:=mapTurned_rest ht
 have hx:=h.sto.pool.log.ext
 have hX:Ext w0 w':=⟨q1.trans hx.os,q2.trans hx.tape,q3.trans hx.output,by rw [q4];exact hx.size,fun k hk=>(ho k (fun e=>by have:=h.out.2.2;omega)).trans (Below.block hx k hk)⟩
 exact ⟨⟨h.sto.pool.keep hX fun k hk=>ho k (fun e=>h.out.1 (e▸hk)),(ho s (Ne.symm h.out.2.1)).trans h.sto.blk,h.sto.base⟩,(ho bv (rw_ne_map h.sv h.map)).trans h.sv,(ho bm (rw_ne_map h.mv h.map)).trans h.mv,hm,h.out⟩
theorem slost1_1 (h:LoSt w0 w Z s S R bv bm mb m n) (at_ txn pgn:Nat) (pv off nx:Int) (bf af:List UInt8) (dl:List (Int×Int)) (op:Bool) (hpg:pgn < 100000) (hn:n < 100000) (A5 A6 A8:Option Addr) (n5 c5 n6 c6 n8 c8:Nat):
  Calls Tryz.prog 93 #[.int .u64 (at_:Int), .agg #[.int .u8 1, .int .u64 (txn:Int), .int .u64 pv, .int .i64 (pgn:Int), .int .i64 off, .slice A5 n5 c5, .slice A6 n6 c6, .int .u64 nx, .slice A8 n8 c8, .bool op], .pointer (some ⟨bv,0,none⟩), .pointer (some ⟨bm,0,none⟩)] w (fun e w' =>e= .returned (.int .i64 0)∧∃n',LoSt w0 w' Z s S (lostR R at_ ⟨1,(txn:Int),pv,(pgn:Int),off,bf,af,nx,dl,op⟩) bv bm mb (lostM m at_ ⟨1,(txn:Int),pv,(pgn:Int),off,bf,af,nx,dl,op⟩) n'∧n'≤n + 1):=by
 obtain ⟨wb,HWB⟩:∃wb,Hid (w.alloc (.cells #[.int .u8 1, .int .u64 (txn:Int), .int .u64 pv, .int .i64 (pgn:Int), .int .i64 off, .slice A5 n5 c5, .slice A6 n6 c6, .int .u64 nx, .slice A8 n8 c8, .bool op] 95)=wb):=⟨_,hide rfl⟩
 obtain ⟨gR,HGR⟩:∃gR,Hid (w.heap.size=gR):=⟨_,hide rfl⟩
 have HXB:Hid (Ext w wb):=hide (by rw [← HWB.out];exact Ext.alloc _ _)
 have HRB:Hid (Rw wb gR 95 [.int .u8 1, .int .u64 (txn:Int), .int .u64 pv, .int .i64 (pgn:Int), .int .i64 off, .slice A5 n5 c5, .slice A6 n6 c6, .int .u64 nx, .slice A8 n8 c8, .bool op]):=hide (by rw [← HWB.out,← HGR.out];exact Rw.new w 95 [.int .u8 1, .int .u64 (txn:Int), .int .u64 pv, .int .i64 (pgn:Int), .int .i64 off, .slice A5 n5 c5, .slice A6 n6 c6, .int .u64 nx, .slice A8 n8 c8, .bool op])
 have HB:=hide (h.ext_ HXB.out)
 have HGN:Hid (gR≠s):=hide (HRB.out.apart HB.out.sto.blk (by decide))
 have KCH:Hid (∀W,Calls Tryz.prog 94 #[.agg #[.int .u8 1, .int .u64 (txn:Int), .int .u64 pv, .int .i64 (pgn:Int), .int .i64 off, .slice A5 n5 c5, .slice A6 n6 c6, .int .u64 nx, .slice A8 n8 c8, .bool op]] W (fun e w' =>e= .returned (.bool false)∧Ext W w')):=hide (fun W=>schanges_any _ _ _ _ _ _ _ _ _ 1 W)
 have HPG:=hide hpg
 have HN:=hide hn
 have r0:=HRB.out.cell (i:=0) rfl
 have r1:=HRB.out.cell (i:=1) rfl
 have r2:=HRB.out.cell (i:=2) rfl
 have r3:=HRB.out.cell (i:=3) rfl
 have r4:=HRB.out.cell (i:=4) rfl
 have r5:=HRB.out.cell (i:=5) rfl
 have r6:=HRB.out.cell (i:=6) rfl
 have r7:=HRB.out.cell (i:=7) rfl
 have r8:=HRB.out.cell (i:=8) rfl
 have r9:=HRB.out.cell (i:=9) rfl
 have b5:=HB.out.sto.blk.cell (i:=5) rfl
 have b6:=HB.out.sto.blk.cell (i:=6) rfl
 have b7:=HB.out.sto.blk.cell (i:=7) rfl
 have b8:=HB.out.sto.blk.cell (i:=8) rfl
 have f5:=HB.out.sto.blk.frozen 5
 have f6:=HB.out.sto.blk.frozen 6
 have f7:=HB.out.sto.blk.frozen 7
 have f8:=HB.out.sto.blk.frozen 8
 have bvc:=HB.out.sv.cell (i:=0) rfl
 have bmc:=HB.out.mv.cell (i:=0) rfl
 clear h hpg hn
 go_enter Tryz.func93,Tryz.ntmps93
 go_upto_region 1 with fail
 rw [HWB.out,HGR.out]
 go_upto_region 17 with fail
 have HP4:=hide ((((HB.out.put 5 (.bool true) { R with op:=true } rfl).put 6 (.int .u64 (txn:Int)) { R with op:=true,number:=txn } rfl).put 7 (.int .u64 0) { R with op:=true,number:=txn,first:=0 } rfl).put 8 (.int .u64 (at_:Int)) { R with op:=true,number:=txn,first:=0,last:=at_ } rfl)
 have HR4:Hid (Rw ((((wb.setCell ⟨s,5,none⟩ (.bool true)).setCell ⟨s,6,none⟩ (.int .u64 (txn:Int))).setCell ⟨s,7,none⟩ (.int .u64 0)).setCell ⟨s,8,none⟩ (.int .u64 (at_:Int))) gR 95 [.int .u8 1, .int .u64 (txn:Int), .int .u64 pv, .int .i64 (pgn:Int), .int .i64 off, .slice A5 n5 c5, .slice A6 n6 c6, .int .u64 nx, .slice A8 n8 c8, .bool op]):=hide (by
  have ho:∀(W:World) (i:Nat) (v:Value),Rw W gR 95 [.int .u8 1, .int .u64 (txn:Int), .int .u64 pv, .int .i64 (pgn:Int), .int .i64 off, .slice A5 n5 c5, .slice A6 n6 c6, .int .u64 nx, .slice A8 n8 c8, .bool op]→Rw (W.setCell ⟨s,i,none⟩ v) gR 95 [.int .u8 1, .int .u64 (txn:Int), .int .u64 pv, .int .i64 (pgn:Int), .int .i64 off, .slice A5 n5 c5, .slice A6 n6 c6, .int .u64 nx, .slice A8 n8 c8, .bool op]:=fun W i v h=>(Below.heap_setCell W ⟨s,i,none⟩ v gR HGN.out).trans h
  exact ho _ _ _ (ho _ _ _ (ho _ _ _ (ho _ _ _ HRB.out))))
 obtain ⟨w4,hw4⟩:∃w4,((((wb.setCell ⟨s,5,none⟩ (.bool true)).setCell ⟨s,6,none⟩ (.int .u64 (txn:Int))).setCell ⟨s,7,none⟩ (.int .u64 0)).setCell ⟨s,8,none⟩ (.int .u64 (at_:Int)))=w4:=⟨_,rfl⟩
 rw [hw4] at HP4 HR4 ⊢
 clear hw4 r0 r1 r2 r3 r4 r5 r6 r7 r8 r9 b5 b6 b7 b8 f5 f6 f7 f8 bvc bmc
 have bmc:=HP4.out.mv.cell (i:=0) rfl
 have r0:=HR4.out.cell (i:=0) rfl
 have r1:=HR4.out.cell (i:=1) rfl
 have r2:=HR4.out.cell (i:=2) rfl
 have r3:=HR4.out.cell (i:=3) rfl
 have r4:=HR4.out.cell (i:=4) rfl
 have r5:=HR4.out.cell (i:=5) rfl
 have r6:=HR4.out.cell (i:=6) rfl
 have r7:=HR4.out.cell (i:=7) rfl
 have r8:=HR4.out.cell (i:=8) rfl
 have r9:=HR4.out.cell (i:=9) rfl
 obtain ⟨v6,ps6,hlk6,hv6⟩:=HP4.out.map.look_ok (t:=86) (e:=34) Tryz.underlying86 (z:= .int .u64 0) (by kernel_rfl) (zd:= .lit (.int .u64 0)) (zp:= []) rfl pgn HPG.out
 have hsq:(sinM m pgn).isSome=(m pgn).isSome:=by unfold sinM;cases m pgn <;> rfl
 rw [hsq] at hlk6
 clear hsq hv6
 go_wp2_with (go_at_call 94;(with_reducible refine (KCH.out w4).mono ?_);rintro e5 w5 ⟨rfl,hx5⟩;have HX5:=hide hx5;clear hx5)
 go_ret
 exact ⟨rfl,n,HP4.out.ext_ HX5.out,Nat.le_succ n⟩
theorem slost1_2 (h:LoSt w0 w Z s S R bv bm mb m n) (at_ txn pgn:Nat) (pv off nx:Int) (bf af:List UInt8) (dl:List (Int×Int)) (op:Bool) (hpg:pgn < 100000) (hn:n < 100000) (A5 A6 A8:Option Addr) (n5 c5 n6 c6 n8 c8:Nat):
  Calls Tryz.prog 93 #[.int .u64 (at_:Int), .agg #[.int .u8 2, .int .u64 (txn:Int), .int .u64 pv, .int .i64 (pgn:Int), .int .i64 off, .slice A5 n5 c5, .slice A6 n6 c6, .int .u64 nx, .slice A8 n8 c8, .bool op], .pointer (some ⟨bv,0,none⟩), .pointer (some ⟨bm,0,none⟩)] w (fun e w' =>e= .returned (.int .i64 0)∧∃n',LoSt w0 w' Z s S (lostR R at_ ⟨2,(txn:Int),pv,(pgn:Int),off,bf,af,nx,dl,op⟩) bv bm mb (lostM m at_ ⟨2,(txn:Int),pv,(pgn:Int),off,bf,af,nx,dl,op⟩) n'∧n'≤n + 1):=by
 obtain ⟨wb,HWB⟩:∃wb,Hid (w.alloc (.cells #[.int .u8 2, .int .u64 (txn:Int), .int .u64 pv, .int .i64 (pgn:Int), .int .i64 off, .slice A5 n5 c5, .slice A6 n6 c6, .int .u64 nx, .slice A8 n8 c8, .bool op] 95)=wb):=⟨_,hide rfl⟩
 obtain ⟨gR,HGR⟩:∃gR,Hid (w.heap.size=gR):=⟨_,hide rfl⟩
 have HXB:Hid (Ext w wb):=hide (by rw [← HWB.out];exact Ext.alloc _ _)
 have HRB:Hid (Rw wb gR 95 [.int .u8 2, .int .u64 (txn:Int), .int .u64 pv, .int .i64 (pgn:Int), .int .i64 off, .slice A5 n5 c5, .slice A6 n6 c6, .int .u64 nx, .slice A8 n8 c8, .bool op]):=hide (by rw [← HWB.out,← HGR.out];exact Rw.new w 95 [.int .u8 2, .int .u64 (txn:Int), .int .u64 pv, .int .i64 (pgn:Int), .int .i64 off, .slice A5 n5 c5, .slice A6 n6 c6, .int .u64 nx, .slice A8 n8 c8, .bool op])
 have HB:=hide (h.ext_ HXB.out)
 have HGN:Hid (gR≠s):=hide (HRB.out.apart HB.out.sto.blk (by decide))
 have KCH:Hid (∀W,Calls Tryz.prog 94 #[.agg #[.int .u8 2, .int .u64 (txn:Int), .int .u64 pv, .int .i64 (pgn:Int), .int .i64 off, .slice A5 n5 c5, .slice A6 n6 c6, .int .u64 nx, .slice A8 n8 c8, .bool op]] W (fun e w' =>e= .returned (.bool true)∧Ext W w')):=hide (fun W=>schanges_any _ _ _ _ _ _ _ _ _ 2 W)
 have HPG:=hide hpg
 have HN:=hide hn
 have r0:=HRB.out.cell (i:=0) rfl
 have r1:=HRB.out.cell (i:=1) rfl
 have r2:=HRB.out.cell (i:=2) rfl
 have r3:=HRB.out.cell (i:=3) rfl
 have r4:=HRB.out.cell (i:=4) rfl
 have r5:=HRB.out.cell (i:=5) rfl
 have r6:=HRB.out.cell (i:=6) rfl
 have r7:=HRB.out.cell (i:=7) rfl
 have r8:=HRB.out.cell (i:=8) rfl
 have r9:=HRB.out.cell (i:=9) rfl
 have b5:=HB.out.sto.blk.cell (i:=5) rfl
 have b6:=HB.out.sto.blk.cell (i:=6) rfl
 have b7:=HB.out.sto.blk.cell (i:=7) rfl
 have b8:=HB.out.sto.blk.cell (i:=8) rfl
 have f5:=HB.out.sto.blk.frozen 5
 have f6:=HB.out.sto.blk.frozen 6
 have f7:=HB.out.sto.blk.frozen 7
 have f8:=HB.out.sto.blk.frozen 8
 have bvc:=HB.out.sv.cell (i:=0) rfl
 have bmc:=HB.out.mv.cell (i:=0) rfl
 clear h hpg hn
 go_enter Tryz.func93,Tryz.ntmps93
 go_upto_region 1 with fail
 rw [HWB.out,HGR.out]
 go_upto_region 17 with fail
 have HP4:=hide ((((HB.out.put 5 (.bool true) { R with op:=true } rfl).put 6 (.int .u64 (txn:Int)) { R with op:=true,number:=txn } rfl).put 7 (.int .u64 0) { R with op:=true,number:=txn,first:=0 } rfl).put 8 (.int .u64 (at_:Int)) { R with op:=true,number:=txn,first:=0,last:=at_ } rfl)
 have HR4:Hid (Rw ((((wb.setCell ⟨s,5,none⟩ (.bool true)).setCell ⟨s,6,none⟩ (.int .u64 (txn:Int))).setCell ⟨s,7,none⟩ (.int .u64 0)).setCell ⟨s,8,none⟩ (.int .u64 (at_:Int))) gR 95 [.int .u8 2, .int .u64 (txn:Int), .int .u64 pv, .int .i64 (pgn:Int), .int .i64 off, .slice A5 n5 c5, .slice A6 n6 c6, .int .u64 nx, .slice A8 n8 c8, .bool op]):=hide (by
  have ho:∀(W:World) (i:Nat) (v:Value),Rw W gR 95 [.int .u8 2, .int .u64 (txn:Int), .int .u64 pv, .int .i64 (pgn:Int), .int .i64 off, .slice A5 n5 c5, .slice A6 n6 c6, .int .u64 nx, .slice A8 n8 c8, .bool op]→Rw (W.setCell ⟨s,i,none⟩ v) gR 95 [.int .u8 2, .int .u64 (txn:Int), .int .u64 pv, .int .i64 (pgn:Int), .int .i64 off, .slice A5 n5 c5, .slice A6 n6 c6, .int .u64 nx, .slice A8 n8 c8, .bool op]:=fun W i v h=>(Below.heap_setCell W ⟨s,i,none⟩ v gR HGN.out).trans h
  exact ho _ _ _ (ho _ _ _ (ho _ _ _ (ho _ _ _ HRB.out))))
 obtain ⟨w4,hw4⟩:∃w4,((((wb.setCell ⟨s,5,none⟩ (.bool true)).setCell ⟨s,6,none⟩ (.int .u64 (txn:Int))).setCell ⟨s,7,none⟩ (.int .u64 0)).setCell ⟨s,8,none⟩ (.int .u64 (at_:Int)))=w4:=⟨_,rfl⟩
 rw [hw4] at HP4 HR4 ⊢
 clear hw4 r0 r1 r2 r3 r4 r5 r6 r7 r8 r9 b5 b6 b7 b8 f5 f6 f7 f8 bvc bmc
 have bmc:=HP4.out.mv.cell (i:=0) rfl
 have r0:=HR4.out.cell (i:=0) rfl
 have r1:=HR4.out.cell (i:=1) rfl
 have r2:=HR4.out.cell (i:=2) rfl
 have r3:=HR4.out.cell (i:=3) rfl
 have r4:=HR4.out.cell (i:=4) rfl
 have r5:=HR4.out.cell (i:=5) rfl
 have r6:=HR4.out.cell (i:=6) rfl
 have r7:=HR4.out.cell (i:=7) rfl
 have r8:=HR4.out.cell (i:=8) rfl
 have r9:=HR4.out.cell (i:=9) rfl
 obtain ⟨v6,ps6,hlk6,hv6⟩:=HP4.out.map.look_ok (t:=86) (e:=34) Tryz.underlying86 (z:= .int .u64 0) (by kernel_rfl) (zd:= .lit (.int .u64 0)) (zp:= []) rfl pgn HPG.out
 have hsq:(sinM m pgn).isSome=(m pgn).isSome:=by unfold sinM;cases m pgn <;> rfl
 rw [hsq] at hlk6
 cases hm0:(m pgn).isSome with
 | true=>
  rw [hm0] at hlk6
  have HM0:Hid (lostM m at_ ⟨2,(txn:Int),pv,(pgn:Int),off,bf,af,nx,dl,op⟩=m):=hide (by
   unfold lostM
   rw [if_neg]
   rintro ⟨-,h2⟩
   rw [Int.toNat_natCast,hm0] at h2
   cases h2)
  clear hsq hv6 hm0
  go_wp2_with (go_at_call 94;(with_reducible refine (KCH.out w4).mono ?_);rintro e5 w5 ⟨rfl,hx5⟩;have HX5:=hide hx5;clear hx5)
  go_ret
  rw [HM0.out]
  exact ⟨rfl,n,HP4.out.ext_ HX5.out,Nat.le_succ n⟩
 | false=>
  rw [hm0] at hlk6
  have HM0:Hid (lostM m at_ ⟨2,(txn:Int),pv,(pgn:Int),off,bf,af,nx,dl,op⟩=upM m pgn (some at_)):=hide (by
   unfold lostM
   rw [if_pos ⟨rfl,by rw [Int.toNat_natCast];exact hm0⟩,Int.toNat_natCast])
  have HMN:=hide hm0
  clear hsq hv6 hm0
  go_upto_region 19 with (go_at_call 94;(with_reducible refine (KCH.out w4).mono ?_);rintro e5 w5 ⟨rfl,hx5⟩;have HX5:=hide hx5;clear hx5)
  have HP5:=hide (HP4.out.ext_ HX5.out)
  clear bmc r0 r1 r2 r3 r4 r5 r6 r7 r8 r9 hlk6
  have bmc:=HP5.out.mv.cell (i:=0) rfl
  have r3:=(HR4.out.ext HX5.out).cell (i:=3) rfl
  obtain ⟨w6,hrun6,hm6,ht6⟩:=HP5.out.map.put (t:=86) (e:=34) Tryz.underlying86 pgn HPG.out (by have:=HN.out;omega) (val:= .int .u64 (at_:Int)) (d:= .lit (.int .u64 (at_:Int))) (ps:= []) rfl
  have HP6:=hide (HP5.out.turned (m':=upM m pgn (some at_)) (n':=n + 1) (by
   have e1:sinM (upM m pgn (some at_))=upM (sinM m) pgn (some (.lit (.int .u64 (at_:Int)))):=by
    funext j
    unfold sinM
    by_cases e:j=pgn
    ·subst e;simp [upM_same]
    ·simp [upM_other _ _ e]
   rw [e1]
   have e2:(sinM m pgn).isSome=false:=by unfold sinM;have:=HMN.out;cases hq:m pgn <;> simp_all
   rw [e2] at hm6
   exact hm6) ht6)
  clear hm6 ht6
  go_wp2
  go_ret
  rw [HM0.out]
  exact ⟨rfl,n + 1,HP6.out,Nat.le_refl _⟩
theorem slost1_3 (h:LoSt w0 w Z s S R bv bm mb m n) (at_ txn pgn:Nat) (pv off nx:Int) (bf af:List UInt8) (dl:List (Int×Int)) (op:Bool) (hpg:pgn < 100000) (hn:n < 100000) (A5 A6 A8:Option Addr) (n5 c5 n6 c6 n8 c8:Nat):
  Calls Tryz.prog 93 #[.int .u64 (at_:Int), .agg #[.int .u8 3, .int .u64 (txn:Int), .int .u64 pv, .int .i64 (pgn:Int), .int .i64 off, .slice A5 n5 c5, .slice A6 n6 c6, .int .u64 nx, .slice A8 n8 c8, .bool op], .pointer (some ⟨bv,0,none⟩), .pointer (some ⟨bm,0,none⟩)] w (fun e w' =>e= .returned (.int .i64 0)∧∃n',LoSt w0 w' Z s S (lostR R at_ ⟨3,(txn:Int),pv,(pgn:Int),off,bf,af,nx,dl,op⟩) bv bm mb (lostM m at_ ⟨3,(txn:Int),pv,(pgn:Int),off,bf,af,nx,dl,op⟩) n'∧n'≤n + 1):=by
 obtain ⟨wb,HWB⟩:∃wb,Hid (w.alloc (.cells #[.int .u8 3, .int .u64 (txn:Int), .int .u64 pv, .int .i64 (pgn:Int), .int .i64 off, .slice A5 n5 c5, .slice A6 n6 c6, .int .u64 nx, .slice A8 n8 c8, .bool op] 95)=wb):=⟨_,hide rfl⟩
 obtain ⟨gR,HGR⟩:∃gR,Hid (w.heap.size=gR):=⟨_,hide rfl⟩
 have HXB:Hid (Ext w wb):=hide (by rw [← HWB.out];exact Ext.alloc _ _)
 have HRB:Hid (Rw wb gR 95 [.int .u8 3, .int .u64 (txn:Int), .int .u64 pv, .int .i64 (pgn:Int), .int .i64 off, .slice A5 n5 c5, .slice A6 n6 c6, .int .u64 nx, .slice A8 n8 c8, .bool op]):=hide (by rw [← HWB.out,← HGR.out];exact Rw.new w 95 [.int .u8 3, .int .u64 (txn:Int), .int .u64 pv, .int .i64 (pgn:Int), .int .i64 off, .slice A5 n5 c5, .slice A6 n6 c6, .int .u64 nx, .slice A8 n8 c8, .bool op])
 have HB:=hide (h.ext_ HXB.out)
 have HGN:Hid (gR≠s):=hide (HRB.out.apart HB.out.sto.blk (by decide))
 have KCH:Hid (∀W,Calls Tryz.prog 94 #[.agg #[.int .u8 3, .int .u64 (txn:Int), .int .u64 pv, .int .i64 (pgn:Int), .int .i64 off, .slice A5 n5 c5, .slice A6 n6 c6, .int .u64 nx, .slice A8 n8 c8, .bool op]] W (fun e w' =>e= .returned (.bool true)∧Ext W w')):=hide (fun W=>schanges_any _ _ _ _ _ _ _ _ _ 3 W)
 have HPG:=hide hpg
 have HN:=hide hn
 have r0:=HRB.out.cell (i:=0) rfl
 have r1:=HRB.out.cell (i:=1) rfl
 have r2:=HRB.out.cell (i:=2) rfl
 have r3:=HRB.out.cell (i:=3) rfl
 have r4:=HRB.out.cell (i:=4) rfl
 have r5:=HRB.out.cell (i:=5) rfl
 have r6:=HRB.out.cell (i:=6) rfl
 have r7:=HRB.out.cell (i:=7) rfl
 have r8:=HRB.out.cell (i:=8) rfl
 have r9:=HRB.out.cell (i:=9) rfl
 have b5:=HB.out.sto.blk.cell (i:=5) rfl
 have b6:=HB.out.sto.blk.cell (i:=6) rfl
 have b7:=HB.out.sto.blk.cell (i:=7) rfl
 have b8:=HB.out.sto.blk.cell (i:=8) rfl
 have f5:=HB.out.sto.blk.frozen 5
 have f6:=HB.out.sto.blk.frozen 6
 have f7:=HB.out.sto.blk.frozen 7
 have f8:=HB.out.sto.blk.frozen 8
 have bvc:=HB.out.sv.cell (i:=0) rfl
 have bmc:=HB.out.mv.cell (i:=0) rfl
 clear h hpg hn
 go_enter Tryz.func93,Tryz.ntmps93
 go_upto_region 1 with fail
 rw [HWB.out,HGR.out]
 go_upto_region 17 with fail
 have HP4:=hide ((((HB.out.put 5 (.bool true) { R with op:=true } rfl).put 6 (.int .u64 (txn:Int)) { R with op:=true,number:=txn } rfl).put 7 (.int .u64 0) { R with op:=true,number:=txn,first:=0 } rfl).put 8 (.int .u64 (at_:Int)) { R with op:=true,number:=txn,first:=0,last:=at_ } rfl)
 have HR4:Hid (Rw ((((wb.setCell ⟨s,5,none⟩ (.bool true)).setCell ⟨s,6,none⟩ (.int .u64 (txn:Int))).setCell ⟨s,7,none⟩ (.int .u64 0)).setCell ⟨s,8,none⟩ (.int .u64 (at_:Int))) gR 95 [.int .u8 3, .int .u64 (txn:Int), .int .u64 pv, .int .i64 (pgn:Int), .int .i64 off, .slice A5 n5 c5, .slice A6 n6 c6, .int .u64 nx, .slice A8 n8 c8, .bool op]):=hide (by
  have ho:∀(W:World) (i:Nat) (v:Value),Rw W gR 95 [.int .u8 3, .int .u64 (txn:Int), .int .u64 pv, .int .i64 (pgn:Int), .int .i64 off, .slice A5 n5 c5, .slice A6 n6 c6, .int .u64 nx, .slice A8 n8 c8, .bool op]→Rw (W.setCell ⟨s,i,none⟩ v) gR 95 [.int .u8 3, .int .u64 (txn:Int), .int .u64 pv, .int .i64 (pgn:Int), .int .i64 off, .slice A5 n5 c5, .slice A6 n6 c6, .int .u64 nx, .slice A8 n8 c8, .bool op]:=fun W i v h=>(Below.heap_setCell W ⟨s,i,none⟩ v gR HGN.out).trans h
  exact ho _ _ _ (ho _ _ _ (ho _ _ _ (ho _ _ _ HRB.out))))
 obtain ⟨w4,hw4⟩:∃w4,((((wb.setCell ⟨s,5,none⟩ (.bool true)).setCell ⟨s,6,none⟩ (.int .u64 (txn:Int))).setCell ⟨s,7,none⟩ (.int .u64 0)).setCell ⟨s,8,none⟩ (.int .u64 (at_:Int)))=w4:=⟨_,rfl⟩
 rw [hw4] at HP4 HR4 ⊢
 clear hw4 r0 r1 r2 r3 r4 r5 r6 r7 r8 r9 b5 b6 b7 b8 f5 f6 f7 f8 bvc bmc
 have bmc:=HP4.out.mv.cell (i:=0) rfl
 have r0:=HR4.out.cell (i:=0) rfl
 have r1:=HR4.out.cell (i:=1) rfl
 have r2:=HR4.out.cell (i:=2) rfl
 have r3:=HR4.out.cell (i:=3) rfl
 have r4:=HR4.out.cell (i:=4) rfl
 have r5:=HR4.out.cell (i:=5) rfl
 have r6:=HR4.out.cell (i:=6) rfl
 have r7:=HR4.out.cell (i:=7) rfl
 have r8:=HR4.out.cell (i:=8) rfl
 have r9:=HR4.out.cell (i:=9) rfl
 obtain ⟨v6,ps6,hlk6,hv6⟩:=HP4.out.map.look_ok (t:=86) (e:=34) Tryz.underlying86 (z:= .int .u64 0) (by kernel_rfl) (zd:= .lit (.int .u64 0)) (zp:= []) rfl pgn HPG.out
 have hsq:(sinM m pgn).isSome=(m pgn).isSome:=by unfold sinM;cases m pgn <;> rfl
 rw [hsq] at hlk6
 cases hm0:(m pgn).isSome with
 | true=>
  rw [hm0] at hlk6
  have HM0:Hid (lostM m at_ ⟨3,(txn:Int),pv,(pgn:Int),off,bf,af,nx,dl,op⟩=m):=hide (by
   unfold lostM
   rw [if_neg]
   rintro ⟨-,h2⟩
   rw [Int.toNat_natCast,hm0] at h2
   cases h2)
  clear hsq hv6 hm0
  go_wp2_with (go_at_call 94;(with_reducible refine (KCH.out w4).mono ?_);rintro e5 w5 ⟨rfl,hx5⟩;have HX5:=hide hx5;clear hx5)
  go_ret
  rw [HM0.out]
  exact ⟨rfl,n,HP4.out.ext_ HX5.out,Nat.le_succ n⟩
 | false=>
  rw [hm0] at hlk6
  have HM0:Hid (lostM m at_ ⟨3,(txn:Int),pv,(pgn:Int),off,bf,af,nx,dl,op⟩=upM m pgn (some at_)):=hide (by
   unfold lostM
   rw [if_pos ⟨rfl,by rw [Int.toNat_natCast];exact hm0⟩,Int.toNat_natCast])
  have HMN:=hide hm0
  clear hsq hv6 hm0
  go_upto_region 19 with (go_at_call 94;(with_reducible refine (KCH.out w4).mono ?_);rintro e5 w5 ⟨rfl,hx5⟩;have HX5:=hide hx5;clear hx5)
  have HP5:=hide (HP4.out.ext_ HX5.out)
  clear bmc r0 r1 r2 r3 r4 r5 r6 r7 r8 r9 hlk6
  have bmc:=HP5.out.mv.cell (i:=0) rfl
  have r3:=(HR4.out.ext HX5.out).cell (i:=3) rfl
  obtain ⟨w6,hrun6,hm6,ht6⟩:=HP5.out.map.put (t:=86) (e:=34) Tryz.underlying86 pgn HPG.out (by have:=HN.out;omega) (val:= .int .u64 (at_:Int)) (d:= .lit (.int .u64 (at_:Int))) (ps:= []) rfl
  have HP6:=hide (HP5.out.turned (m':=upM m pgn (some at_)) (n':=n + 1) (by
   have e1:sinM (upM m pgn (some at_))=upM (sinM m) pgn (some (.lit (.int .u64 (at_:Int)))):=by
    funext j
    unfold sinM
    by_cases e:j=pgn
    ·subst e;simp [upM_same]
    ·simp [upM_other _ _ e]
   rw [e1]
   have e2:(sinM m pgn).isSome=false:=by unfold sinM;have:=HMN.out;cases hq:m pgn <;> simp_all
   rw [e2] at hm6
   exact hm6) ht6)
  clear hm6 ht6
  go_wp2
  go_ret
  rw [HM0.out]
  exact ⟨rfl,n + 1,HP6.out,Nat.le_refl _⟩
theorem slost1_4 (h:LoSt w0 w Z s S R bv bm mb m n) (at_ txn pgn:Nat) (pv off nx:Int) (bf af:List UInt8) (dl:List (Int×Int)) (op:Bool) (hpg:pgn < 100000) (hn:n < 100000) (A5 A6 A8:Option Addr) (n5 c5 n6 c6 n8 c8:Nat):
  Calls Tryz.prog 93 #[.int .u64 (at_:Int), .agg #[.int .u8 4, .int .u64 (txn:Int), .int .u64 pv, .int .i64 (pgn:Int), .int .i64 off, .slice A5 n5 c5, .slice A6 n6 c6, .int .u64 nx, .slice A8 n8 c8, .bool op], .pointer (some ⟨bv,0,none⟩), .pointer (some ⟨bm,0,none⟩)] w (fun e w' =>e= .returned (.int .i64 0)∧∃n',LoSt w0 w' Z s S (lostR R at_ ⟨4,(txn:Int),pv,(pgn:Int),off,bf,af,nx,dl,op⟩) bv bm mb (lostM m at_ ⟨4,(txn:Int),pv,(pgn:Int),off,bf,af,nx,dl,op⟩) n'∧n'≤n + 1):=by
 obtain ⟨wb,HWB⟩:∃wb,Hid (w.alloc (.cells #[.int .u8 4, .int .u64 (txn:Int), .int .u64 pv, .int .i64 (pgn:Int), .int .i64 off, .slice A5 n5 c5, .slice A6 n6 c6, .int .u64 nx, .slice A8 n8 c8, .bool op] 95)=wb):=⟨_,hide rfl⟩
 obtain ⟨gR,HGR⟩:∃gR,Hid (w.heap.size=gR):=⟨_,hide rfl⟩
 have HXB:Hid (Ext w wb):=hide (by rw [← HWB.out];exact Ext.alloc _ _)
 have HRB:Hid (Rw wb gR 95 [.int .u8 4, .int .u64 (txn:Int), .int .u64 pv, .int .i64 (pgn:Int), .int .i64 off, .slice A5 n5 c5, .slice A6 n6 c6, .int .u64 nx, .slice A8 n8 c8, .bool op]):=hide (by rw [← HWB.out,← HGR.out];exact Rw.new w 95 [.int .u8 4, .int .u64 (txn:Int), .int .u64 pv, .int .i64 (pgn:Int), .int .i64 off, .slice A5 n5 c5, .slice A6 n6 c6, .int .u64 nx, .slice A8 n8 c8, .bool op])
 have HB:=hide (h.ext_ HXB.out)
 have HGN:Hid (gR≠s):=hide (HRB.out.apart HB.out.sto.blk (by decide))
 have KCH:Hid (∀W,Calls Tryz.prog 94 #[.agg #[.int .u8 4, .int .u64 (txn:Int), .int .u64 pv, .int .i64 (pgn:Int), .int .i64 off, .slice A5 n5 c5, .slice A6 n6 c6, .int .u64 nx, .slice A8 n8 c8, .bool op]] W (fun e w' =>e= .returned (.bool false)∧Ext W w')):=hide (fun W=>schanges_any _ _ _ _ _ _ _ _ _ 4 W)
 have HPG:=hide hpg
 have HN:=hide hn
 have r0:=HRB.out.cell (i:=0) rfl
 have r1:=HRB.out.cell (i:=1) rfl
 have r2:=HRB.out.cell (i:=2) rfl
 have r3:=HRB.out.cell (i:=3) rfl
 have r4:=HRB.out.cell (i:=4) rfl
 have r5:=HRB.out.cell (i:=5) rfl
 have r6:=HRB.out.cell (i:=6) rfl
 have r7:=HRB.out.cell (i:=7) rfl
 have r8:=HRB.out.cell (i:=8) rfl
 have r9:=HRB.out.cell (i:=9) rfl
 have b5:=HB.out.sto.blk.cell (i:=5) rfl
 have b6:=HB.out.sto.blk.cell (i:=6) rfl
 have b7:=HB.out.sto.blk.cell (i:=7) rfl
 have b8:=HB.out.sto.blk.cell (i:=8) rfl
 have f5:=HB.out.sto.blk.frozen 5
 have f6:=HB.out.sto.blk.frozen 6
 have f7:=HB.out.sto.blk.frozen 7
 have f8:=HB.out.sto.blk.frozen 8
 have bvc:=HB.out.sv.cell (i:=0) rfl
 have bmc:=HB.out.mv.cell (i:=0) rfl
 clear h hpg hn
 go_enter Tryz.func93,Tryz.ntmps93
 go_upto_region 1 with fail
 rw [HWB.out,HGR.out]
 go_upto_region 17 with fail
 have HP4:=hide ((((HB.out.put 5 (.bool false) { R with op:=false } rfl).put 6 (.int .u64 0) { R with op:=false,number:=0 } rfl).put 7 (.int .u64 0) { R with op:=false,number:=0,first:=0 } rfl).put 8 (.int .u64 0) { R with op:=false,number:=0,first:=0,last:=0 } rfl)
 have HR4:Hid (Rw ((((wb.setCell ⟨s,5,none⟩ (.bool false)).setCell ⟨s,6,none⟩ (.int .u64 0)).setCell ⟨s,7,none⟩ (.int .u64 0)).setCell ⟨s,8,none⟩ (.int .u64 0)) gR 95 [.int .u8 4, .int .u64 (txn:Int), .int .u64 pv, .int .i64 (pgn:Int), .int .i64 off, .slice A5 n5 c5, .slice A6 n6 c6, .int .u64 nx, .slice A8 n8 c8, .bool op]):=hide (by
  have ho:∀(W:World) (i:Nat) (v:Value),Rw W gR 95 [.int .u8 4, .int .u64 (txn:Int), .int .u64 pv, .int .i64 (pgn:Int), .int .i64 off, .slice A5 n5 c5, .slice A6 n6 c6, .int .u64 nx, .slice A8 n8 c8, .bool op]→Rw (W.setCell ⟨s,i,none⟩ v) gR 95 [.int .u8 4, .int .u64 (txn:Int), .int .u64 pv, .int .i64 (pgn:Int), .int .i64 off, .slice A5 n5 c5, .slice A6 n6 c6, .int .u64 nx, .slice A8 n8 c8, .bool op]:=fun W i v h=>(Below.heap_setCell W ⟨s,i,none⟩ v gR HGN.out).trans h
  exact ho _ _ _ (ho _ _ _ (ho _ _ _ (ho _ _ _ HRB.out))))
 obtain ⟨w4,hw4⟩:∃w4,((((wb.setCell ⟨s,5,none⟩ (.bool false)).setCell ⟨s,6,none⟩ (.int .u64 0)).setCell ⟨s,7,none⟩ (.int .u64 0)).setCell ⟨s,8,none⟩ (.int .u64 0))=w4:=⟨_,rfl⟩
 rw [hw4] at HP4 HR4 ⊢
 clear hw4 r0 r1 r2 r3 r4 r5 r6 r7 r8 r9 b5 b6 b7 b8 f5 f6 f7 f8 bvc bmc
 have bmc:=HP4.out.mv.cell (i:=0) rfl
 have r0:=HR4.out.cell (i:=0) rfl
 have r1:=HR4.out.cell (i:=1) rfl
 have r2:=HR4.out.cell (i:=2) rfl
 have r3:=HR4.out.cell (i:=3) rfl
 have r4:=HR4.out.cell (i:=4) rfl
 have r5:=HR4.out.cell (i:=5) rfl
 have r6:=HR4.out.cell (i:=6) rfl
 have r7:=HR4.out.cell (i:=7) rfl
 have r8:=HR4.out.cell (i:=8) rfl
 have r9:=HR4.out.cell (i:=9) rfl
 obtain ⟨v6,ps6,hlk6,hv6⟩:=HP4.out.map.look_ok (t:=86) (e:=34) Tryz.underlying86 (z:= .int .u64 0) (by kernel_rfl) (zd:= .lit (.int .u64 0)) (zp:= []) rfl pgn HPG.out
 have hsq:(sinM m pgn).isSome=(m pgn).isSome:=by unfold sinM;cases m pgn <;> rfl
 rw [hsq] at hlk6
 clear hsq hv6
 go_wp2_with (go_at_call 94;(with_reducible refine (KCH.out w4).mono ?_);rintro e5 w5 ⟨rfl,hx5⟩;have HX5:=hide hx5;clear hx5)
 go_ret
 exact ⟨rfl,n,HP4.out.ext_ HX5.out,Nat.le_succ n⟩
theorem slost1_5 (h:LoSt w0 w Z s S R bv bm mb m n) (at_ txn pgn:Nat) (pv off nx:Int) (bf af:List UInt8) (dl:List (Int×Int)) (op:Bool) (hpg:pgn < 100000) (hn:n < 100000) (A5 A6 A8:Option Addr) (n5 c5 n6 c6 n8 c8:Nat):
  Calls Tryz.prog 93 #[.int .u64 (at_:Int), .agg #[.int .u8 5, .int .u64 (txn:Int), .int .u64 pv, .int .i64 (pgn:Int), .int .i64 off, .slice A5 n5 c5, .slice A6 n6 c6, .int .u64 nx, .slice A8 n8 c8, .bool op], .pointer (some ⟨bv,0,none⟩), .pointer (some ⟨bm,0,none⟩)] w (fun e w' =>e= .returned (.int .i64 0)∧∃n',LoSt w0 w' Z s S (lostR R at_ ⟨5,(txn:Int),pv,(pgn:Int),off,bf,af,nx,dl,op⟩) bv bm mb (lostM m at_ ⟨5,(txn:Int),pv,(pgn:Int),off,bf,af,nx,dl,op⟩) n'∧n'≤n + 1):=by
 obtain ⟨wb,HWB⟩:∃wb,Hid (w.alloc (.cells #[.int .u8 5, .int .u64 (txn:Int), .int .u64 pv, .int .i64 (pgn:Int), .int .i64 off, .slice A5 n5 c5, .slice A6 n6 c6, .int .u64 nx, .slice A8 n8 c8, .bool op] 95)=wb):=⟨_,hide rfl⟩
 obtain ⟨gR,HGR⟩:∃gR,Hid (w.heap.size=gR):=⟨_,hide rfl⟩
 have HXB:Hid (Ext w wb):=hide (by rw [← HWB.out];exact Ext.alloc _ _)
 have HRB:Hid (Rw wb gR 95 [.int .u8 5, .int .u64 (txn:Int), .int .u64 pv, .int .i64 (pgn:Int), .int .i64 off, .slice A5 n5 c5, .slice A6 n6 c6, .int .u64 nx, .slice A8 n8 c8, .bool op]):=hide (by rw [← HWB.out,← HGR.out];exact Rw.new w 95 [.int .u8 5, .int .u64 (txn:Int), .int .u64 pv, .int .i64 (pgn:Int), .int .i64 off, .slice A5 n5 c5, .slice A6 n6 c6, .int .u64 nx, .slice A8 n8 c8, .bool op])
 have HB:=hide (h.ext_ HXB.out)
 have HGN:Hid (gR≠s):=hide (HRB.out.apart HB.out.sto.blk (by decide))
 have KCH:Hid (∀W,Calls Tryz.prog 94 #[.agg #[.int .u8 5, .int .u64 (txn:Int), .int .u64 pv, .int .i64 (pgn:Int), .int .i64 off, .slice A5 n5 c5, .slice A6 n6 c6, .int .u64 nx, .slice A8 n8 c8, .bool op]] W (fun e w' =>e= .returned (.bool false)∧Ext W w')):=hide (fun W=>schanges_any _ _ _ _ _ _ _ _ _ 5 W)
 have HPG:=hide hpg
 have HN:=hide hn
 have r0:=HRB.out.cell (i:=0) rfl
 have r1:=HRB.out.cell (i:=1) rfl
 have r2:=HRB.out.cell (i:=2) rfl
 have r3:=HRB.out.cell (i:=3) rfl
 have r4:=HRB.out.cell (i:=4) rfl
 have r5:=HRB.out.cell (i:=5) rfl
 have r6:=HRB.out.cell (i:=6) rfl
 have r7:=HRB.out.cell (i:=7) rfl
 have r8:=HRB.out.cell (i:=8) rfl
 have r9:=HRB.out.cell (i:=9) rfl
 have b5:=HB.out.sto.blk.cell (i:=5) rfl
 have b6:=HB.out.sto.blk.cell (i:=6) rfl
 have b7:=HB.out.sto.blk.cell (i:=7) rfl
 have b8:=HB.out.sto.blk.cell (i:=8) rfl
 have f5:=HB.out.sto.blk.frozen 5
 have f6:=HB.out.sto.blk.frozen 6
 have f7:=HB.out.sto.blk.frozen 7
 have f8:=HB.out.sto.blk.frozen 8
 have bvc:=HB.out.sv.cell (i:=0) rfl
 have bmc:=HB.out.mv.cell (i:=0) rfl
 clear h hpg hn
 go_enter Tryz.func93,Tryz.ntmps93
 go_upto_region 1 with fail
 rw [HWB.out,HGR.out]
 go_upto_region 17 with fail
 have HP4:=hide ((((HB.out.put 5 (.bool false) { R with op:=false } rfl).put 6 (.int .u64 0) { R with op:=false,number:=0 } rfl).put 7 (.int .u64 0) { R with op:=false,number:=0,first:=0 } rfl).put 8 (.int .u64 0) { R with op:=false,number:=0,first:=0,last:=0 } rfl)
 have HR4:Hid (Rw ((((wb.setCell ⟨s,5,none⟩ (.bool false)).setCell ⟨s,6,none⟩ (.int .u64 0)).setCell ⟨s,7,none⟩ (.int .u64 0)).setCell ⟨s,8,none⟩ (.int .u64 0)) gR 95 [.int .u8 5, .int .u64 (txn:Int), .int .u64 pv, .int .i64 (pgn:Int), .int .i64 off, .slice A5 n5 c5, .slice A6 n6 c6, .int .u64 nx, .slice A8 n8 c8, .bool op]):=hide (by
  have ho:∀(W:World) (i:Nat) (v:Value),Rw W gR 95 [.int .u8 5, .int .u64 (txn:Int), .int .u64 pv, .int .i64 (pgn:Int), .int .i64 off, .slice A5 n5 c5, .slice A6 n6 c6, .int .u64 nx, .slice A8 n8 c8, .bool op]→Rw (W.setCell ⟨s,i,none⟩ v) gR 95 [.int .u8 5, .int .u64 (txn:Int), .int .u64 pv, .int .i64 (pgn:Int), .int .i64 off, .slice A5 n5 c5, .slice A6 n6 c6, .int .u64 nx, .slice A8 n8 c8, .bool op]:=fun W i v h=>(Below.heap_setCell W ⟨s,i,none⟩ v gR HGN.out).trans h
  exact ho _ _ _ (ho _ _ _ (ho _ _ _ (ho _ _ _ HRB.out))))
 obtain ⟨w4,hw4⟩:∃w4,((((wb.setCell ⟨s,5,none⟩ (.bool false)).setCell ⟨s,6,none⟩ (.int .u64 0)).setCell ⟨s,7,none⟩ (.int .u64 0)).setCell ⟨s,8,none⟩ (.int .u64 0))=w4:=⟨_,rfl⟩
 rw [hw4] at HP4 HR4 ⊢
 clear hw4 r0 r1 r2 r3 r4 r5 r6 r7 r8 r9 b5 b6 b7 b8 f5 f6 f7 f8 bvc bmc
 have bmc:=HP4.out.mv.cell (i:=0) rfl
 have r0:=HR4.out.cell (i:=0) rfl
 have r1:=HR4.out.cell (i:=1) rfl
 have r2:=HR4.out.cell (i:=2) rfl
 have r3:=HR4.out.cell (i:=3) rfl
 have r4:=HR4.out.cell (i:=4) rfl
 have r5:=HR4.out.cell (i:=5) rfl
 have r6:=HR4.out.cell (i:=6) rfl
 have r7:=HR4.out.cell (i:=7) rfl
 have r8:=HR4.out.cell (i:=8) rfl
 have r9:=HR4.out.cell (i:=9) rfl
 obtain ⟨v6,ps6,hlk6,hv6⟩:=HP4.out.map.look_ok (t:=86) (e:=34) Tryz.underlying86 (z:= .int .u64 0) (by kernel_rfl) (zd:= .lit (.int .u64 0)) (zp:= []) rfl pgn HPG.out
 have hsq:(sinM m pgn).isSome=(m pgn).isSome:=by unfold sinM;cases m pgn <;> rfl
 rw [hsq] at hlk6
 clear hsq hv6
 go_wp2_with (go_at_call 94;(with_reducible refine (KCH.out w4).mono ?_);rintro e5 w5 ⟨rfl,hx5⟩;have HX5:=hide hx5;clear hx5)
 go_ret
 exact ⟨rfl,n,HP4.out.ext_ HX5.out,Nat.le_succ n⟩
end
end Go.Proofs.YthmdmgnhfhpcaaaGreatDoor
