/-
  What the card wants, part 21: SvE, SuN.
-/
import Derived.Shelf.SlSortCmp.WholeK
import Derived.Shelf.SlSortCmp.NoneTotal
import Derived.Shelf.SlicesG.Cmp
import Derived.Shelf.Small.Bits
import Derived.Shelf.Lay
import Derived.Ground.SlsfProg
import Derived.Ground.SlgcProg
import Derived.Ground.NamesProg
import Derived.Test.YthmdmgnhfhpcaaaGreatDoorPkCardSvE14
import Derived.Test.YthmdmgnhfhpcaaaGreatDoorPkCardSvE16
import Derived.Test.YthmdmgnhfhpcaaaGreatDoorPkCardSvE17
import Derived.Test.YthmdmgnhfhpcaaaGreatDoorPkCardSvE18
import Derived.Test.YthmdmgnhfhpcaaaGreatDoorPkCardSvE19
import Derived.Test.YthmdmgnhfhpcaaaGreatDoorPkCardSvE20
set_option linter.unusedVariables false
set_option linter.unusedSimpArgs false
set_option maxRecDepth 20000
set_option maxHeartbeats 12800000
namespace Go.Proofs.YthmdmgnhfhpcaaaGreatDoor
open Go.RowKit
section
variable {w:World}
theorem serrs_none (n c fr i:Int) (A:Option Addr) (m cb:Nat) (hT:Tab w) (hsort:SortC) (hn:n < 1∨120 < n):
  Calls Tryz.prog 3 #[.int .i64 n, .int .i64 c, .int .i64 fr, .int .i64 i, .slice A m cb] w (Ret w (Is (.bool true))):=by
 have KA:Hid (∀W,Ext w W→Calls Tryz.prog 5 #[] W (fun e w' =>e= .returned (.bool true)∧Ext W w')):=hide (fun W hW=>sawake_any W (hT.ext hW) hsort)
 have HX0:Hid (Ext w w):=hide (Ext.refl _)
 clear hT hsort
 by_cases h1:n < 1
 ·clear hn
  go_enter Tryz.func3,Tryz.ntmps3
  go_upto_region 2 with (go_at_call 5;(with_reducible refine (KA.out w HX0.out).mono ?_);rintro e w1 ⟨rfl,hx1⟩;have HX1:=hide hx1;clear hx1)
  go_wp2_with (go_at_call 5;(with_reducible refine (KA.out w1 HX1.out).mono ?_);rintro e w2 ⟨rfl,hx2⟩;have HX2:=hide (HX1.out.trans hx2);clear hx2)
  go_ret
  exact Ret.mk HX2.out rfl
 ·have h2:n > 120:=by omega
  clear hn
  go_enter Tryz.func3,Tryz.ntmps3
  go_upto_region 2 with (go_at_call 5;(with_reducible refine (KA.out w HX0.out).mono ?_);rintro e w1 ⟨rfl,hx1⟩;have HX1:=hide hx1;clear hx1)
  go_wp2_with (go_at_call 5;(with_reducible refine (KA.out w1 HX1.out).mono ?_);rintro e w2 ⟨rfl,hx2⟩;have HX2:=hide (HX1.out.trans hx2);clear hx2)
  go_ret
  exact Ret.mk HX2.out rfl
theorem storeErrs_walk (n c fr i:Int) (A:Option Addr) (l:List UInt8) (m cb:Nat) (hT:Tab w) (hsort:SortC) (hrd:Rd w A l) (hln:l.length=m) (hcb:m≤cb):
  Calls Tryz.prog 3 #[.int .i64 n, .int .i64 c, .int .i64 fr, .int .i64 i, .slice A m cb] w (Ret w (Is (.bool true))):=by
 by_cases hn:n < 1∨120 < n
 ·exact serrs_none n c fr i A m cb hT hsort hn
 ·obtain ⟨N,rfl⟩:∃N:Nat,n=(N:Int):=⟨n.toNat,by omega⟩
  have hN:1≤N∧N≤120:=by omega
  obtain ⟨ge,HGE⟩:∃ge:Int,(if i < 0∨1 < i then 1 else 0)=ge:=⟨_,rfl⟩
  obtain ⟨he,HHE⟩:∃he:Int,(if m≠504 then 3 else 0)=he:=⟨_,rfl⟩
  have HI3:(i < 0∧ge=1)∨(¬i < 0∧i > 1∧ge=1)∨(¬i < 0∧¬i > 1∧ge=0):=by
   rw [← HGE]
   split <;> omega
  have HM3:(((m:Int) !=504)=false∧he=0)∨(((m:Int) !=504)=true∧he=3):=by
   rw [← HHE]
   by_cases h5:m=504
   ·left
    subst h5
    exact ⟨rfl,rfl⟩
   ·right
    exact ⟨by simp only [bne_iff_ne,ne_eq];omega,by rw [if_pos h5]⟩
  by_cases h1:c < 16
  ·exact serrs_1 N c fr i A m cb ge he (erk N c fr i A l m cb hT hsort hrd hln hcb hN 1 1 ge he (by rw [if_pos (by omega)]) (by rw [if_pos (by omega)]) HGE.symm HHE.symm) hN HI3 HM3 h1
  ·by_cases h2:(N:Int) - 2 < c
   ·exact serrs_2 N c fr i A m cb ge he (erk N c fr i A l m cb hT hsort hrd hln hcb hN 1 1 ge he (by rw [if_pos (by omega)]) (by rw [if_pos (by omega)]) HGE.symm HHE.symm) hN HI3 HM3 ⟨by omega,h2⟩
   ·by_cases h3:fr < 1
    ·exact serrs_3 N c fr i A m cb ge he (erk N c fr i A l m cb hT hsort hrd hln hcb hN 0 1 ge he (by rw [if_neg (by omega)]) (by rw [if_pos (by omega)]) HGE.symm HHE.symm) hN HI3 HM3 ⟨by omega,by omega,h3⟩
    ·by_cases h4:64 < fr
     ·exact serrs_4 N c fr i A m cb ge he (erk N c fr i A l m cb hT hsort hrd hln hcb hN 0 1 ge he (by rw [if_neg (by omega)]) (by rw [if_pos (by omega)]) HGE.symm HHE.symm) hN HI3 HM3 ⟨by omega,by omega,h4⟩
     ·exact serrs_0 N c fr i A m cb ge he (erk N c fr i A l m cb hT hsort hrd hln hcb hN 0 0 ge he (by rw [if_neg (by omega)]) (by rw [if_neg (by omega)]) HGE.symm HHE.symm) hN HI3 HM3 ⟨by omega,by omega,by omega,by omega⟩
end
open Go.Shelf Go.RowKit Go.Lib Go.Sort
shelf_lay_g SlLaysF0.n6 Slsf 6 at Tryz 130 as Tryz.sortD
shelf_lay_g SlLaysC2.n5 Slgc 5 at Tryz 132 as Tryz.cmpD
def encD (r:Nat×Nat):List Value:= [.int .i64 (r.1:Int), .int .u64 (r.2:Int)]
def cfD (x y:Nat×Nat):Int:=Lib.compareInt (x.1:Int) (y.1:Int)
theorem cmpD_any (x y:Nat×Nat) (W:World):Calls Tryz.prog 131 #[.agg #[.int .i64 (x.1:Int), .int .u64 (x.2:Int)], .agg #[.int .i64 (y.1:Int), .int .u64 (y.2:Int)]] W fun e w' =>e= .returned (.int .i64 (cfD x y))∧∃q os',w' =grow (W.drewN q) os':=by
 have hcon:=fun W' =>AnyG.cmp_Compare_int Tryz.cmpD (x.1:Int) (y.1:Int) W'
 change ∀W',Calls Tryz.prog 132 _ _ _ at hcon
 unfold cfD
 generalize Lib.compareInt (x.1:Int) (y.1:Int)=r at hcon ⊢
 go_enter Tryz.func131,Tryz.ntmps131
 go_wp2_with (go_at_call 132;refine (hcon _).mono ?_;rintro e w' ⟨rfl,rfl⟩)
 go_ret
 exact ⟨rfl,0,_,by rw [alloc_eq_grow,alloc_eq_grow,grow_grow];rfl⟩
theorem ltD (x y:Nat×Nat):ltOf cfD x y=decide (x.1 < y.1):=by
 unfold ltOf cfD Lib.compareInt
 by_cases h1:x.1 < y.1
 ·have h2:(x.1:Int) < (y.1:Int):=by omega
  simp [h1]
 ·by_cases h2:y.1 < x.1
  ·simp [h1,h2]
  ·simp [h1,h2]
theorem swoD:SWO (ltOf cfD) where
 irrefl x:=by rw [ltD];simp
 trans x y z h1 h2:=by rw [ltD] at *;simp at *;omega
 ntrans x y z h1 h2:=by rw [ltD] at *;simp at *;omega
theorem ownD_holds {w:World} {g cap:Nat} {cur:Array Value} {zs:List (Nat×Nat)} (hg:w.heap[g]? =some (.cells cur 136 (0,0))) (hn:zs.length≤cap) (hs:cur.size=cap * 2) (ht:cur.toList.take (zs.length * 2)=dV zs):HoldsK encD 2 w g 0 zs.toArray:=by
 intro j hj
 rw [size_flatK] at hj
 have hj:j < zs.length * 2:=hj
 have hd:j / 2 < zs.length:=by omega
 have hc:(dV zs)[j]? =some ((flatK encD 2 zs.toArray)[j]!):=by
  rw [get_flatK _ _ _ _ hj]
  have hz:zs.toArray[j / 2]! =zs[j / 2]:=by simp [hd]
  rw [hz]
  obtain ⟨h1,h2⟩:=dV_get zs (j / 2) _ (List.getElem?_eq_getElem hd)
  rcases Nat.mod_two_eq_zero_or_one j with h | h
  ·have e:j / 2 * 2=j:=by omega
   rw [e] at h1
   rw [h1,h]
   rfl
  ·have e:j / 2 * 2 + 1=j:=by omega
   rw [e] at h2
   rw [h2,h]
   rfl
 have hcur:cur[j]? =some ((flatK encD 2 zs.toArray)[j]!):=by
  rw [← ht,List.getElem?_take_of_lt hj] at hc
  simpa using hc
 have hR:Rw w g 136 cur.toList:=by
  show w.heap[g]? =_
  rw [hg]
 have e0:0 + j=j:=Nat.zero_add j
 rw [e0]
 exact ⟨hR.cell (i:=j) (by simpa using hcur),hR.frozen j⟩
theorem sortC:SortC:=by
 intro W B v zs ho hl
 rcases ho.2 with ⟨rfl,h0⟩ | ⟨g,cap,cur,rfl,hb,hg,hnc,hcm,hcs,htk⟩
 ·have hz:zs= []:=List.length_eq_zero_iff.1 h0
  subst hz
  refine (AnyF.slices_SortFunc_none Tryz.sortD none 0 (.func (.func 131) #[] #[]) W).mono ?_
  rintro e w' ⟨rfl,rfl⟩
  exact ⟨rfl,⟨rfl,rfl,rfl,Nat.le_refl _,fun _ _ _=>rfl⟩,none,0, [],rfl,List.Perm.refl _,List.Pairwise.nil,fun h=>absurd rfl h,fun a ha=>by cases ha⟩
 ·have hH:=ownD_holds hg hnc hcs htk
  have hgl:g < W.heap.size:=(Array.getElem?_eq_some_iff.1 hg).1
  have eg:∀args w,(callFunc 131 args).run Tryz.prog w= .ok (.enter 131 args) w:=enters_of Tryz.func131 (by kernel_rfl) rfl
  have hcmp:CmpLays Tryz.prog 131 #[] encD 2 cfD g 0 zs.toArray.size W:=fun _ _ _ _ x y=>cmpD_any x y _
  refine (AnyQ.slices_SortFunc Tryz.sortD 2 Tryz.isAgg136 Tryz.sizeOf136 encD (fun _=>rfl) (fun x v hv=>by simp [encD] at hv;rcases hv with rfl | rfl <;> rfl) cfD swoD 131 #[] g 0 cap zs.toArray W eg hcmp hH hgl (by simp;omega)).mono ?_
  rintro e w' ⟨rfl,d',n,os,hp,hs,rfl⟩
  have hsz:d'.size=zs.length:=hp.1
  have hpm:d'.toList.Perm zs:=by
   have h3:=hp.2.2
   have hx:zs.toArray.extract 0 zs.toArray.size=zs.toArray:=by simp
   have hy:d'.extract 0 zs.toArray.size=d':=by rw [show zs.toArray.size=d'.size from hp.1.symm];simp
   rw [hx,hy] at h3
   exact h3
  have hlen:d'.toList.length=zs.length:=by rw [← hsz];simp
  have hHold:=holdsK_sortWorldK_c encD 2 W g 0 zs.toArray d' n os hH hgl hp.1
  refine ⟨rfl,⟨rfl,rfl,rfl,size_sortWorldK_c encD 2 W g 0 n d' os,fun k hk hne=> ?_⟩,some ⟨g,0,none⟩,cap,d'.toList,by rw [hlen],hpm, ?_,fun _=>⟨g,rfl,fun j r hr=> ?_⟩,fun a ha=>by injection ha with ha;subst ha;rfl⟩
  ·unfold sortWorldK putRowK putRow
   rw [heap_grow_old _ _ (by simpa [mapBlock,Sort.ahead] using hk)]
   show ((Sort.ahead W n).heap.modify g _)[k]? =W.heap[k]?
   rw [Array.getElem?_modify,if_neg (fun e=>hne (by rw [e];rfl))]
   rfl
  ·rw [List.pairwise_iff_getElem]
   intro i j hi hj hij
   have h1:=hs i j (Nat.zero_le _) hij (by show j < zs.toArray.size;rw [← hp.1];simpa using hj)
   rw [ltD] at h1
   have hi':i < d'.size:=by simpa using hi
   have hj':j < d'.size:=by simpa using hj
   rw [getElem!_pos d' i hi',getElem!_pos d' j hj'] at h1
   simp only [decide_eq_false_iff_not,Nat.not_lt] at h1
   simpa using h1
  ·have hj:j < d'.size:=by simpa using (List.getElem?_eq_some_iff.1 hr).1
   have hr':d'[j]! =r:=by
    rw [getElem!_pos d' j hj]
    have:=(List.getElem?_eq_some_iff.1 hr).2
    simpa using this
   have h1:=hHold.cell hj (c:=0) (by decide)
   have h2:=hHold.cell hj (c:=1) (by decide)
   rw [hr'] at h1 h2
   rw [Nat.zero_add] at h1 h2
   exact ⟨h1.1,h2.1⟩
end Go.Proofs.YthmdmgnhfhpcaaaGreatDoor
