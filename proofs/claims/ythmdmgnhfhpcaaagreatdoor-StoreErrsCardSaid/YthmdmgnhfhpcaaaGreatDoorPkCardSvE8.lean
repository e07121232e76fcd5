/-
  What the card wants, part 8: LgBy, LgFf, LgMk, StM, LgRy, LgRg, LgRi, LgRj.
-/
import Derived.Deep.RegionHeld3
import Derived.Test.YthmdmgnhfhpcaaaGreatDoorPkCardSvE5
import Derived.Test.YthmdmgnhfhpcaaaGreatDoorPkCardSvE7
set_option linter.unusedVariables false
set_option linter.unusedSimpArgs false
set_option maxRecDepth 20000
set_option maxHeartbeats 12800000
namespace Go.Proofs.YthmdmgnhfhpcaaaGreatDoor
open Go.RowKit
def byR (D:Dk) (L:Lg):Nat→Nat→Nat→Int×List UInt8
 | 0,_,_=>(0, [])
 | f + 1,a,n=>if n=0 then (0, []) else if rsE D L a≠0 then (rsE D L a, []) else
   ((byR D L f (a + ((rsB D L a).take n).length) (n - ((rsB D L a).take n).length)).1,(rsB D L a).take n ++ (byR D L f (a + ((rsB D L a).take n).length) (n - ((rsB D L a).take n).length)).2)
def byE (D:Dk) (L:Lg) (a n:Nat):Int:=(byR D L n a n).1
def byB (D:Dk) (L:Lg) (a n:Nat):List UInt8:=if byE D L a n=0 then (byR D L n a n).2 else []
def sLen (v:Value):Nat:=match v with
 | .slice _ n _=>n
 | _=>0
section
variable {w0 w w1:World} {X:Bk} {D D':Dk} {L L':Lg} {r:Value} {e:Ending} {w':World}
theorem byR_zero (f a:Nat):byR D L f a 0=(0, []):=by
 cases f with
 | zero=>rfl
 | succ f=>unfold byR;rw [if_pos rfl]
theorem rsB_pos (a:Nat) (h0:rsE D L a=0) (ha:a < endOf L):0 < (rsB D L a).length:=by
 unfold rsE at h0
 unfold rsB
 unfold endOf at ha
 split at h0
 ·rename_i h
  rw [if_pos h,List.length_drop]
  omega
 ·rename_i h
  rw [if_neg h]
  split at h0
  ·cases h0
  ·rename_i h1
   rw [if_neg h1]
   split at h0
   ·rename_i h2
    rw [if_pos h2,List.length_drop]
    have:=h2.2
    omega
   ·cases h0
theorem bytes_any (h:LgAt w0 w X D L) (ok:L.Ok D) (b:Bd D) (a n:Nat) (hn:n≤100000) (ha:a + n≤endOf L) (hT:Tab w0):Calls Tryz.prog 128 #[.pointer (some ⟨X.q,0,none⟩), .int .u64 (a:Int), .int .i64 (n:Int)] w (ThPost w (byB D L a n) (byE D L a n)):=by
 have KE:=hide (end_any h ok)
 have hel:=endOf_lt ok
 have KR:Hid (∀W k,Ext w W→k < n→Calls Tryz.prog 138 #[.pointer (some ⟨X.q,0,none⟩), .int .u64 ((a + k:Nat):Int)] W (RestPost W (rsB D L (a + k)) (rsE D L (a + k)))):=hide (fun W k hW hk=>rest_any (h.ext_ hW) ok b (a + k) (by omega) hT)
 have HPOS:Hid (∀k,k < n→rsE D L (a + k)=0→0 < (rsB D L (a + k)).length):=hide (fun k hk h0=>rsB_pos (a + k) h0 (by omega))
 obtain ⟨en,HEN⟩:∃en:Nat,Hid (endOf L=en):=⟨_,hide rfl⟩
 rw [HEN.out] at KE
 obtain ⟨d,HD⟩:∃d:Nat,Hid (en - a=d):=⟨_,hide rfl⟩
 have HAL:Hid (a + n≤en∧en < 1200000000000000000):=hide (by have:=HEN.out;omega)
 have HNL:=hide hn
 have hw1:IntKind.u64.wrap (n:Int)=(n:Int):=by rw [IntKind.wrap_u64];omega
 have hw2:IntKind.u64.wrap ((en:Int) - (a:Int))=(d:Int):=by rw [IntKind.wrap_u64];have:=HD.out;have:=HAL.out;omega
 have hng:¬(d:Int) < (n:Int):=by have:=HD.out;have:=HAL.out;omega
 have hng2:¬d < n:=by omega
 obtain ⟨xE,HXE⟩:∃xE,Hid (byE D L a n=xE):=⟨_,hide rfl⟩
 obtain ⟨xB,HXB⟩:∃xB,Hid (byB D L a n=xB):=⟨_,hide rfl⟩
 have HXE2:Hid ((byR D L n (a + 0) (n - 0)).1=xE):=hide HXE.out
 have HXB2:Hid (xE=0→ [] ++ (byR D L n (a + 0) (n - 0)).2=xB):=hide (fun h0=>by rw [← HXB.out];unfold byB;rw [HXE.out,if_pos h0];rfl)
 have HXB3:Hid (¬xE=0→xB= []):=hide (fun h0=>by rw [← HXB.out];unfold byB;rw [HXE.out,if_neg h0])
 rw [HXE.out,HXB.out]
 clear h ok b hn ha hT hel
 go_enter Tryz.func128,Tryz.ntmps128
 go_upto_region 4 with (go_at_call 75;(with_reducible refine KE.out.mono ?_);rintro e w1 ⟨rfl,m1,hw1x⟩;have HX1:Hid (Ext w w1):=hide (by rw [hw1x];exact (Ext.refl _).drewN m1);clear hw1x)
 try rw [decide_eq_false hng2]
 clear hw1 hw2 hng hng2
 go_loopw [8] (fun v wr=>∃(k f:Nat) (acc:List UInt8),k≤n∧n - k≤f∧acc.length=k∧Hid (Own wr w.heap.size v acc)∧Hid (Ext w wr)∧Hid ((byR D L f (a + k) (n - k)).1=xE)∧Hid (xE=0→acc ++ (byR D L f (a + k) (n - k)).2=xB)) (fun v _=>n - sLen v)
 case atStart=>exact ⟨0,n, [],by omega,by omega,rfl,hide (Own.nil _ _),HX1,HXE2,HXB2⟩
 case round=>
  obtain ⟨k,f,acc,hk,hf,hacc,HO,HX,HRE,HRB⟩:=hrel
  obtain ⟨Av,cv,hv,hcv,hrv⟩:=HO.out.bytes
  rw [hacc] at hv
  subst hv
  have HACC:=hide hacc
  clear hcv hrv hacc
  by_cases hkn:k < n
  ·have hki:(k:Int) < (n:Int):=by omega
   have HKN:=hide hkn
   have KRX:=hide (KR.out wr k HX.out hkn)
   obtain ⟨rb,HRBE⟩:∃rb,Hid (rsB D L (a + k)=rb):=⟨_,hide rfl⟩
   obtain ⟨re,HREE⟩:∃re,Hid (rsE D L (a + k)=re):=⟨_,hide rfl⟩
   unfold RestPost at KRX
   rw [HRBE.out,HREE.out] at KRX
   have hw3:IntKind.u64.wrap (k:Int)=(k:Int):=by rw [IntKind.wrap_u64];have:=HNL.out;omega
   obtain ⟨ak,HAK⟩:∃ak,Hid (a + k=ak):=⟨_,hide rfl⟩
   have hw4:IntKind.u64.wrap ((a:Int) + (k:Int))=(ak:Int):=by rw [IntKind.wrap_u64];have:=HAK.out;have:=HAL.out;omega
   rw [HAK.out] at KRX
   obtain ⟨f1,HF1⟩:∃f1,Hid (f=f1 + 1):=⟨f - 1,hide (by omega)⟩
   have HUN:Hid (byR D L f (a + k) (n - k)=if re≠0 then (re, []) else ((byR D L f1 (a + k + (rb.take (n - k)).length) (n - k - (rb.take (n - k)).length)).1,rb.take (n - k) ++ (byR D L f1 (a + k + (rb.take (n - k)).length) (n - k - (rb.take (n - k)).length)).2)):=hide (by
    rw [HF1.out,byR,if_neg (by omega),HREE.out,HRBE.out])
   clear hkn
   by_cases hre:re=0
   ·subst hre
    obtain ⟨rr,HRR⟩:∃rr,Hid (n - k=rr):=⟨_,hide rfl⟩
    obtain ⟨pl,HPL⟩:∃pl,Hid (rb.length=pl):=⟨_,hide rfl⟩
    obtain ⟨tk,HTK⟩:∃tk,Hid (rb.take rr=tk):=⟨_,hide rfl⟩
    obtain ⟨t,HT⟩:∃t,Hid (tk.length=t):=⟨_,hide rfl⟩
    have HTV:Hid ((rr < pl→t=rr)∧(¬rr < pl→t=pl)∧0 < t∧t≤rr∧t≤pl):=hide (by
     have h1:=HT.out
     rw [← HTK.out,List.length_take,HPL.out] at h1
     have h2:=HPOS.out k HKN.out HREE.out
     rw [HRBE.out,HPL.out] at h2
     have h3:=HRR.out
     have h4:=HKN.out
     omega)
    have HUN2:Hid (byR D L f (a + k) rr=((byR D L f1 (a + (k + t)) (n - (k + t))).1,tk ++ (byR D L f1 (a + (k + t)) (n - (k + t))).2)):=hide (by
     have h1:=HUN.out
     rw [if_neg (by simp),HRR.out,HTK.out,HT.out,show a + k + t=a + (k + t) by omega,show rr - t=n - (k + t) by have:=HRR.out;omega] at h1
     exact h1)
    rw [HRR.out,HUN2.out] at HRE HRB
    have hw5:IntKind.i64.wrap ((n:Int) - (k:Int))=(rr:Int):=by rw [IntKind.wrap_i64];have:=HRR.out;have:=HNL.out;have:=HKN.out;omega
    have hmin:∀(inst:Decidable (rr < pl)), @ite Int (rr < pl) inst (rr:Int) (pl:Int)=(t:Int):=by
     intro inst
     have h1:=HTV.out
     split
     ·rename_i h2;rw [h1.1 h2]
     ·rename_i h2;rw [h1.2.1 h2]
    have hmin2:∀(inst:Decidable ((rr:Int) < (pl:Int))), @ite Int ((rr:Int) < (pl:Int)) inst (rr:Int) (pl:Int)=(t:Int):=by
     intro inst
     have h1:=HTV.out
     split
     ·rename_i h2;rw [h1.1 (by omega)]
     ·rename_i h2;rw [h1.2.1 (by omega)]
    rw [HPL.out] at KRX
    go_upto_region 8 with (go_at_call 138;(with_reducible refine KRX.out.mono ?_);rintro e w2 ⟨A2,n2,c2,rfl,hn2,hc2,hr2,hx2⟩;subst hn2;have HC2:=hide hc2;have HR2:=hide hr2;have HX2:Hid (Ext w w2):=hide (HX.out.trans hx2);have HO2:Hid (Own w2 w.heap.size (.slice Av k cv) acc):=hide (HO.out.ext hx2);clear hc2 hr2 hx2)
    have hbb:acc.length + tk.length≤140737488355328:=by rw [HT.out,HACC.out];have:=HNL.out;have:=HTV.out;have:=HRR.out;have:=HKN.out;omega
    have hmc:t≤c2:=by have:=HTV.out;have:=HC2.out;omega
    have hw64:wrap64 (t:Int)=(t:Int):=by unfold wrap64;have:=HTV.out;have:=HRR.out;have:=HNL.out;omega
    have HTKR:Hid (Rd w2 A2 tk):=hide (by rw [← HTK.out];exact HR2.out.take rr)
    have HACL:Hid ((acc ++ tk).length=k + t):=hide (by rw [List.length_append,HACC.out,HT.out])
    go_wp2_with (first
     | ((with_reducible show wpList _ _ _ (⟨some 44,_,_,_,_,_⟩::_) _ _);refine wpList_gives (gives_cut (m:=t) rfl Tryz.underlying22 (by kernel_rfl) rfl rfl hmc ⟨rfl,rfl⟩) rfl ?_)
     | ((with_reducible show wpList _ _ _ (⟨some 45,_,_,_,_,_⟩::_) _ _);refine wpList_catG rfl (.tmp 35) (.tmp 44) rfl w.heap.size (.slice Av k cv) acc tk A2 t c2 rfl rfl HT.out.symm HO2.out HTKR.out HX2.out.size hbb ?_;intro v4 w4 ho4 hb4 hs4;obtain ⟨A4,c4,hv4,-,-⟩:=ho4.bytes;rw [HACL.out] at hv4;subst hv4;have HO4:=hide ho4;have HX4:Hid (Ext w w4):=hide (Below.trans HX2.out hb4);have HACB:=hide hbb;clear ho4 hb4 hs4 hmin hmin2 hw64 hmc hbb hw3 hw4 hw5 hki))
    refine ⟨⟨k + t,f1,acc ++ tk, ?_, ?_,HACL.out,HO4,HX4,HRE,hide (fun h0=>by rw [List.append_assoc];exact HRB.out h0)⟩, ?_⟩
    ·have:=HTV.out;have:=HRR.out;have:=HKN.out;omega
    ·have:=HTV.out;have:=HRR.out;have:=HF1.out;omega
    ·show n - (k + t) < n - k
     have:=HTV.out;have:=HKN.out;omega
   ·have HXR:Hid (re=xE∧ []=xB):=hide (by
     have h1:=HRE.out
     rw [HUN.out,if_pos hre] at h1
     have h2:re=xE:=h1
     exact ⟨h2,(HXB3.out (by rw [← h2];exact hre)).symm⟩)
    have hee:(re !=0)=true:=by simpa using hre
    obtain ⟨hx2,hx3⟩:=HXR.out
    subst hx2
    subst hx3
    clear hre
    go_wp2_with (go_at_call 138;(with_reducible refine KRX.out.mono ?_);rintro e w2 ⟨A2,n2,c2,rfl,hn2,hc2,hr2,hx2⟩;have HX2:Hid (Ext w w2):=hide (HX.out.trans hx2);clear hc2 hr2 hx2 hn2)
    go_ret2
    exact ⟨_,rfl,Own.nil _ _,HX2.out⟩
  ·have hkn2:k=n:=by omega
   subst hkn2
   have hki:¬(k:Int) < (k:Int):=by omega
   have HZ:=HRE.out
   rw [Nat.sub_self,byR_zero] at HZ
   have HZ2:Hid (acc=xB):=hide (by
    have h1:=HRB.out HZ.symm
    rw [Nat.sub_self,byR_zero,List.append_nil] at h1
    exact h1)
   have hz3:xE=0:=HZ.symm
   subst hz3
   clear hkn HZ
   go_wp2
   go_ret2
   exact ⟨_,rfl,by rw [← HZ2.out];exact HO.out,HX.out⟩
end
def by2E (D:Dk) (L:Lg) (a:Nat):Int:=if a + 2≤endOf L then byE D L a 2 else 1
def by2B (D:Dk) (L:Lg) (a:Nat):List UInt8:=if a + 2≤endOf L then byB D L a 2 else []
def ffR (D:Dk) (L:Lg) (pl:Nat):Nat→Nat→Int×Nat
 | 0,a=>(0,a)
 | f + 1,a=>if pl≤a then (0,a) else if by2E D L a≠0 then (by2E D L a,0) else ffR D L pl f (a + (2 + szOf (by2B D L a)))
def ffZ (D:Dk) (L:Lg) (pl:Nat):Int×Nat:=ffR D L pl (pl + 1 - L.hd.fi) L.hd.fi
section
variable {w0 w w1:World} {X:Bk} {D D':Dk} {L L':Lg} {r:Value} {e:Ending} {w':World}
theorem byR_len:∀(f a n:Nat),n≤f→a + n≤endOf L→(byR D L f a n).1=0→(byR D L f a n).2.length=n
 | 0,a,n,hf,_,_=>by
  show (0:Nat)=n
  omega
 | f + 1,a,n,hf,ha,h=>by
  unfold byR at h ⊢
  by_cases hn:n=0
  ·rw [if_pos hn] at h ⊢
   exact hn.symm
  ·rw [if_neg hn] at h ⊢
   by_cases he:rsE D L a=0
   ·rw [if_neg (by rw [he];decide)] at h ⊢
    have hp:=rsB_pos (D:=D) (L:=L) a he (by omega)
    have hl:((rsB D L a).take n).length≤n∧0 < ((rsB D L a).take n).length:=by rw [List.length_take];omega
    have k:=byR_len f _ _ (by omega) (by omega) h
    rw [List.length_append,k]
    omega
   ·rw [if_pos he] at h
    exact absurd h he
theorem by2_len (a:Nat) (h:by2E D L a=0):(by2B D L a).length=2:=by
 unfold by2E at h
 unfold by2B
 split at h
 ·rename_i h1
  rw [if_pos h1]
  unfold byB
  rw [if_pos h]
  exact byR_len 2 a 2 (Nat.le_refl _) h1 h
 ·cases h
theorem bytes_over (h:LgAt w0 w X D L) (ok:L.Ok D) (a n:Nat) (hn:n≤100000) (ha:a≤endOf L) (ho:¬a + n≤endOf L):Calls Tryz.prog 128 #[.pointer (some ⟨X.q,0,none⟩), .int .u64 (a:Int), .int .i64 (n:Int)] w (ThPost w [] 1):=by
 have KE:=hide (end_any h ok)
 have hel:=endOf_lt ok
 obtain ⟨en,HEN⟩:∃en:Nat,Hid (endOf L=en):=⟨_,hide rfl⟩
 rw [HEN.out] at KE ha ho hel
 obtain ⟨d,HD⟩:∃d:Nat,Hid (en - a=d):=⟨_,hide rfl⟩
 have hw1:IntKind.u64.wrap (n:Int)=(n:Int):=by rw [IntKind.wrap_u64];omega
 have hw2:IntKind.u64.wrap ((en:Int) - (a:Int))=(d:Int):=by rw [IntKind.wrap_u64];have:=HD.out;omega
 have hng:(d:Int) < (n:Int):=by have:=HD.out;omega
 have hng2:d < n:=by omega
 clear h ok hn ha ho hel
 go_enter Tryz.func128,Tryz.ntmps128
 go_wp2_with (go_at_call 75;(with_reducible refine KE.out.mono ?_);rintro e w1 ⟨rfl,m1,hw1x⟩;have HX1:Hid (Ext w w1):=hide (by rw [hw1x];exact (Ext.refl _).drewN m1);clear hw1x)
 go_ret2
 exact ⟨_,rfl,Own.nil _ _,HX1.out⟩
theorem bytes_two (h:LgAt w0 w X D L) (ok:L.Ok D) (b:Bd D) (a:Nat) (ha:a≤endOf L) (hT:Tab w0):Calls Tryz.prog 128 #[.pointer (some ⟨X.q,0,none⟩), .int .u64 (a:Int), .int .i64 2] w (ThPost w (by2B D L a) (by2E D L a)):=by
 unfold by2B by2E
 by_cases h1:a + 2≤endOf L
 ·rw [if_pos h1,if_pos h1]
  exact bytes_any h ok b a 2 (by decide) h1 hT
 ·rw [if_neg h1,if_neg h1]
  exact bytes_over h ok a 2 (by decide) ha h1
theorem firstFrom_any (h:LgAt w0 w X D L) (ok:L.Ok D) (b:Bd D) (pl:Nat) (hp:pl≤endOf L) (hf:L.hd.fi < 1152921504606846976) (hT:Tab w0):
  Calls Tryz.prog 107 #[.pointer (some ⟨X.q,0,none⟩), .int .u64 (pl:Int)] w (fun e w' =>e= .returned (.tuple #[.int .u64 ((ffZ D L pl).2:Int), .int .i64 (ffZ D L pl).1])∧Ext w w'):=by
 have hel:=endOf_lt ok
 have KB:Hid (∀W a,Ext w W→a < pl→Calls Tryz.prog 128 #[.pointer (some ⟨X.q,0,none⟩), .int .u64 (a:Int), .int .i64 2] W (ThPost W (by2B D L a) (by2E D L a))):=hide (fun W a hW ha=>bytes_two (h.ext_ hW) ok b a (by omega) hT)
 have c5:=h.blk.cell (i:=5) rfl
 obtain ⟨fi,HFI⟩:∃fi,Hid (L.hd.fi=fi):=⟨_,hide rfl⟩
 have HFB:Hid (fi < 1152921504606846976∧pl < 1152921505680588800):=hide (by rw [← HFI.out];omega)
 obtain ⟨zz,HZ⟩:∃zz,Hid (ffZ D L pl=zz):=⟨_,hide rfl⟩
 have HZ0:Hid (ffR D L pl (pl + 1 - fi) fi=zz):=hide (by rw [← HZ.out,← HFI.out];rfl)
 rw [HFI.out] at c5
 rw [HZ.out]
 have HX0:Hid (Ext w w):=hide (Ext.refl w)
 clear h ok b hp hf hT hel
 go_enter Tryz.func107,Tryz.ntmps107
 go_wp2
 clear c5
 go_loopw [6] (fun x wr=>∃(a f:Nat),x= .int .u64 (a:Int)∧a < 1152921505680590100∧pl + 1 - a≤f∧Hid (Ext w wr)∧Hid (ffR D L pl f a=zz)) (fun x _=>pl + 2000 - (intOf x).toNat)
 case atStart=>exact ⟨fi,pl + 1 - fi,rfl,by have:=HFB.out;omega,Nat.le_refl _,HX0,HZ0⟩
 case round=>
  obtain ⟨a,f,rfl,hab,hf,HX,HRE⟩:=hrel
  by_cases hlt:a < pl
  ·have hli:(a:Int) < (pl:Int):=by omega
   have KBX:=hide (KB.out wr a HX.out hlt)
   obtain ⟨f1,HF1⟩:∃f1,Hid (f=f1 + 1):=⟨f - 1,hide (by omega)⟩
   have HUN:Hid (zz=if by2E D L a≠0 then (by2E D L a,0) else ffR D L pl f1 (a + (2 + szOf (by2B D L a)))):=hide (by rw [← HRE.out,HF1.out,ffR,if_neg (by omega)])
   have HLEN:Hid (by2E D L a=0→(by2B D L a).length=2):=hide (by2_len a)
   obtain ⟨sp,HSP⟩:∃sp,Hid (by2B D L a=sp):=⟨_,hide rfl⟩
   obtain ⟨er,HER⟩:∃er,Hid (by2E D L a=er):=⟨_,hide rfl⟩
   rw [HSP.out,HER.out] at KBX HUN HLEN
   by_cases he:er=0
   ·subst he
    have HL2:Hid (sp.length=2):=hide (HLEN.out rfl)
    obtain ⟨sz,HSZ⟩:∃sz,Hid (szOf sp=sz):=⟨_,hide rfl⟩
    have HSB:Hid (sz≤1200):=hide (by rw [← HSZ.out];exact szOf_le _)
    have KSZ:Hid (∀(W:World) (A:Option Addr) (c:Nat),Rd W A sp→Calls Tryz.prog 117 #[.slice A 2 c] W (fun e w' =>e= .returned (.int .i64 (sz:Int))∧Ext W w')):=hide (fun W A c hr=>by
     have q:=sizeOf_any A sp 2 c W hr HL2.out (by decide) (by decide)
     rw [HSZ.out] at q
     exact q)
    obtain ⟨a2,HA2⟩:∃a2,Hid (a + (2 + sz)=a2):=⟨_,hide rfl⟩
    have hw1:IntKind.i64.wrap (2 + (sz:Int))=2 + (sz:Int):=by rw [IntKind.wrap_i64];have:=HSB.out;omega
    have hw2:IntKind.u64.wrap (2 + (sz:Int))=2 + (sz:Int):=by rw [IntKind.wrap_u64];have:=HSB.out;omega
    have hw3:IntKind.u64.wrap ((a:Int) + (2 + (sz:Int)))=(a2:Int):=by rw [IntKind.wrap_u64];have:=HSB.out;have:=HA2.out;omega
    have HUN2:Hid (ffR D L pl f1 a2=zz):=hide (by rw [HUN.out,if_neg (by decide),HSZ.out,HA2.out])
    have HLT:=hide hlt
    clear hlt
    go_wp2_with (first
     | (go_at_call 128;(with_reducible refine KBX.out.mono ?_);rintro e w4 ⟨v4,rfl,ho4,hx4⟩;obtain ⟨A4,c4,hv4,-,hr4⟩:=ho4.bytes;rw [HL2.out] at hv4;subst hv4;have HX4:Hid (Ext w w4):=hide (HX.out.trans hx4);have HR4:=hide hr4;clear ho4 hx4 hr4)
     | (go_at_call 117;(with_reducible refine (KSZ.out _ A4 c4 HR4.out).mono ?_);rintro e w5 ⟨rfl,hx5⟩;have HX5:=hide (HX4.out.trans hx5);clear hx5))
    refine ⟨⟨a2,f1,rfl, ?_, ?_,HX5,HUN2⟩, ?_⟩
    ·have h1:=HA2.out;have h2:=HSB.out;have h3:=HLT.out;have h4:=HFB.out.2;omega
    ·have h1:=HA2.out;have h2:=HF1.out;omega
    ·show pl + 2000 - ((a2:Int)).toNat < pl + 2000 - ((a:Int)).toNat
     have h1:=HA2.out;have h3:=HLT.out;omega
   ·have hzz:zz=(er,0):=by rw [HUN.out,if_pos he]
    subst hzz
    have hee:(er !=0)=true:=by simpa using he
    clear he hlt
    go_wp2_with (go_at_call 128;(with_reducible refine KBX.out.mono ?_);rintro e w4 ⟨v4,rfl,ho4,hx4⟩;have HX4:Hid (Ext w w4):=hide (HX.out.trans hx4);clear ho4 hx4)
    go_ret2
    exact ⟨rfl,HX4.out⟩
  ·have hli:¬(a:Int) < (pl:Int):=by omega
   have hzz:zz=(0,a):=by
    rw [← HRE.out]
    cases f with
    | zero=>rfl
    | succ f=>unfold ffR;rw [if_pos (by omega)]
   subst hzz
   clear hlt
   go_wp2
   go_ret2
   exact ⟨rfl,HX.out⟩
end
def mkO (L:Lg) (fi:Nat):Nat:=if fi=L.sure then L.hd.ep else L.hd.old
def mkH (L:Lg) (ck st fi:Nat):Hd:= { L.hd with ck:=ck,st:=st,fi:=fi,old:=mkO L fi }
def mkB (L:Lg) (ck st fi:Nat):List UInt8:=sealB 1 (mkH L ck st fi).ns []
def mkE (D:Dk) (L:Lg) (ck st:Nat):Int:=
 if st < L.hd.st∨L.sure < st∨L.sure < ck then 1 else if (ffZ D L st).1≠0 then (ffZ D L st).1
 else if wE D L.at_ (mkB L ck st (ffZ D L st).2)≠0 then wE D L.at_ (mkB L ck st (ffZ D L st).2) else sE (wD D L.at_ (mkB L ck st (ffZ D L st).2))
def mkD (D:Dk) (L:Lg) (ck st:Nat):Dk:=
 if st < L.hd.st∨L.sure < st∨L.sure < ck then D else if (ffZ D L st).1≠0 then D
 else if wE D L.at_ (mkB L ck st (ffZ D L st).2)≠0 then wD D L.at_ (mkB L ck st (ffZ D L st).2) else sD (wD D L.at_ (mkB L ck st (ffZ D L st).2))
def mkL (D:Dk) (L:Lg) (ck st:Nat):Lg:=if mkE D L ck st=0 then { L with hd:=mkH L ck st (ffZ D L st).2 } else L
section
variable {w0 w w1:World} {X:Bk} {D D':Dk} {L L':Lg} {r:Value} {e:Ending} {w':World}
theorem ffR_lt (pl:Nat):∀(f a:Nat),a < 1152921504606850000→pl < 1152921504606846976→(ffR D L pl f a).2 < 1152921504606850000
 | 0,a,ha,_=>ha
 | f + 1,a,ha,hp=>by
  unfold ffR
  split
  ·exact ha
  ·split
   ·show 0 < _
    decide
   ·exact ffR_lt pl f _ (by have:=szOf_le (by2B D L a);omega) hp
theorem mark_any (h:LgAt w0 w X D L) (ok:L.Ok D) (b:Bd D) (hpn:D.pen.length < 500000) (ho:D.ops < 500000) (ck st:Nat) (hk:ck < 18446744073709551616) (hs:st < 18446744073709551616) (hf:L.hd.fi < 1152921504606846976) (hse:L.sure≤endOf L) (hT:Tab w0):
    Calls Tryz.prog 70 #[.pointer (some ⟨X.q,0,none⟩), .int .u64 (ck:Int), .int .u64 (st:Int)] w (LPost w0 w X (.int .i64 (mkE D L ck st)) (mkD D L ck st) (mkL D L ck st)):=by
  have HL:=hide h
  have c4:=h.blk.cell (i:=4) rfl
  have c8:=h.blk.cell (i:=8) rfl
  by_cases hbad:st < L.hd.st∨L.sure < st∨L.sure < ck
  · have HE:Hid (mkE D L ck st=1):=hide (by unfold mkE;rw [if_pos hbad])
    have HD:Hid (mkD D L ck st=D):=hide (by unfold mkD;rw [if_pos hbad])
    have HLL:Hid (mkL D L ck st=L):=hide (by unfold mkL;rw [HE.out,if_neg (by decide)])
    rw [HE.out,HD.out,HLL.out]
    clear h ok b hpn ho hk hs hf hT hse
    by_cases h1:st < L.hd.st
    · have h1i:(st:Int) < (L.hd.st:Int):=by omega
      clear hbad
      go_enter Tryz.func70,Tryz.ntmps70
      go_wp2
      go_ret
      exact LPost.still HL.out (Ext.refl _) rfl
    · by_cases h2:L.sure < st
      · have h1i:¬(st:Int) < (L.hd.st:Int):=by omega
        have h2i:(L.sure:Int) < (st:Int):=by omega
        clear hbad
        go_enter Tryz.func70,Tryz.ntmps70
        go_wp2
        go_ret
        exact LPost.still HL.out (Ext.refl _) rfl
      · have h3:L.sure < ck:=by rcases hbad with h | h | h;exact absurd h h1;exact absurd h h2;exact h
        have h1i:¬(st:Int) < (L.hd.st:Int):=by omega
        have h2i:¬(L.sure:Int) < (st:Int):=by omega
        have h3i:(L.sure:Int) < (ck:Int):=by omega
        clear hbad
        go_enter Tryz.func70,Tryz.ntmps70
        go_wp2
        go_ret
        exact LPost.still HL.out (Ext.refl _) rfl
  · have h1:¬st < L.hd.st:=fun h=>hbad (.inl h)
    have h2:¬L.sure < st:=fun h=>hbad (.inr (.inl h))
    have h3:¬L.sure < ck:=fun h=>hbad (.inr (.inr h))
    have h1i:¬(st:Int) < (L.hd.st:Int):=by omega
    have h2i:¬(L.sure:Int) < (st:Int):=by omega
    have h3i:¬(L.sure:Int) < (ck:Int):=by omega
    have hsu:=ok.sure
    have HFZ:Hid ((ffZ D L st).2 < 1152921504606850000):=hide (ffR_lt st _ _ (by omega) (by omega))
    have KF:=hide (firstFrom_any h ok b st (by omega) hf hT)
    have HME:Hid (mkE D L ck st=if (ffZ D L st).1≠0 then (ffZ D L st).1 else if wE D L.at_ (mkB L ck st (ffZ D L st).2)≠0 then wE D L.at_ (mkB L ck st (ffZ D L st).2) else sE (wD D L.at_ (mkB L ck st (ffZ D L st).2))):=hide (by unfold mkE;rw [if_neg hbad])
    have HMD:Hid (mkD D L ck st=if (ffZ D L st).1≠0 then D else if wE D L.at_ (mkB L ck st (ffZ D L st).2)≠0 then wD D L.at_ (mkB L ck st (ffZ D L st).2) else sD (wD D L.at_ (mkB L ck st (ffZ D L st).2))):=hide (by unfold mkD;rw [if_neg hbad])
    have HML:Hid (mkL D L ck st=if mkE D L ck st=0 then { L with hd:=mkH L ck st (ffZ D L st).2 } else L):=hide rfl
    obtain ⟨xE,HXE⟩:∃xE,Hid (mkE D L ck st=xE):=⟨_,hide rfl⟩
    obtain ⟨xD,HXD⟩:∃xD,Hid (mkD D L ck st=xD):=⟨_,hide rfl⟩
    obtain ⟨xL,HXL⟩:∃xL,Hid (mkL D L ck st=xL):=⟨_,hide rfl⟩
    rw [HXE.out] at HME HML ⊢
    rw [HXD.out] at HMD ⊢
    rw [HXL.out] at HML ⊢
    obtain ⟨ze,HZE⟩:∃ze,Hid ((ffZ D L st).1=ze):=⟨_,hide rfl⟩
    obtain ⟨fi,HZF⟩:∃fi,Hid ((ffZ D L st).2=fi):=⟨_,hide rfl⟩
    rw [HZE.out,HZF.out] at KF HME HMD
    rw [HZF.out] at HML HFZ
    by_cases hze:ze=0
    · subst hze
      rw [if_neg (by decide)] at HME HMD
      have HOKH:Hid ((mkH L ck st fi).Ok):=hide ⟨ok.hd.ep,(by show mkO L fi < _;unfold mkO;split;exact ok.hd.ep;exact ok.hd.old),hs,by show fi < _;have:=HFZ.out;omega,hk,ok.hd.cn⟩
      obtain ⟨oo,HOO⟩:∃oo,Hid (mkO L fi=oo):=⟨_,hide rfl⟩
      have hcase:(((fi:Int)==(L.sure:Int))=true∧oo=L.hd.ep)∨(((fi:Int)==(L.sure:Int))=false∧oo=L.hd.old):=by
        have h0:=HOO.out
        unfold mkO at h0
        by_cases hfs:fi=L.sure
        · rw [if_pos hfs] at h0
          exact .inl ⟨by simp [hfs],h0.symm⟩
        · rw [if_neg hfs] at h0
          exact .inr ⟨by simp;omega,h0.symm⟩
      have HMH:Hid (mkH L ck st fi= { L.hd with ck:=ck,st:=st,fi:=fi,old:=oo }):=hide (by unfold mkH;rw [HOO.out])
      obtain ⟨qb,HQB⟩:∃qb,Hid (mkB L ck st fi=qb):=⟨_,hide rfl⟩
      rw [HQB.out] at HME HMD
      have HBD:=hide (wD_bd b (by omega) (by omega) (L.at_:Int) qb)
      obtain ⟨e1,HE1⟩:∃e1,Hid (wE D L.at_ qb=e1):=⟨_,hide rfl⟩
      obtain ⟨D1,HD1⟩:∃D1,Hid (wD D L.at_ qb=D1):=⟨_,hide rfl⟩
      have HT:=hide hT
      have HB:=hide b
      have KW:Hid (∀W,Ext w W→Calls Tryz.prog 50 #[.pointer (some ⟨X.g,0,none⟩), .int .i64 (L.at_:Int), .agg #[.int .u64 (L.hd.ep:Int), .int .u64 (oo:Int), .int .u64 (st:Int), .int .u64 (fi:Int), .int .u64 (ck:Int), .int .u64 (L.hd.cn:Int)]] W (DPost w0.heap.size X.g X.gd X.gn W X.A (.int .i64 e1) D1)):=hide (fun W hW=>by
        have k:=writeHead_any (HL.out.disk.ext hW) HB.out (Nat.le_trans HL.out.ext.size hW.size) (L.at_:Int) (mkH L ck st fi) HOKH.out (HT.out.ext (HL.out.ext.trans hW))
        rw [show sealB 1 (mkH L ck st fi).ns []=qb from HQB.out,HE1.out,HD1.out,HMH.out] at k
        exact k)
      rw [HE1.out,HD1.out] at HME HMD
      rw [HD1.out] at HBD
      have HBLK:=HL.out.blk.lt
      have HNOT:Hid (∀k,w.heap.size≤k→¬X.has k):=hide (fun k hk hh=>by
        have h1:k < w.heap.size:=by
          rcases hh with rfl | rfl | rfl | rfl | ⟨a,ha,rfl⟩ | hk2
          · exact HL.out.blk.lt
          · exact HL.out.disk.blk.lt
          · exact HL.out.disk.dur.lt
          · exact HL.out.disk.new.lt
          · exact (own_base HL.out.disk.pen a ha).2
          · exact (own_block HL.out.tail k hk2).2.1
        omega)
      clear h ok b hpn ho hk hs hf hT hse hbad h1 h2 h3 hsu
      rcases hcase with ⟨hfs,hoo⟩ | ⟨hfs,hoo⟩
      all_goals
       go_enter Tryz.func70,Tryz.ntmps70
       go_upto_region 12 with (go_at_call 107;(with_reducible refine KF.out.mono ?_);rintro e w2 ⟨rfl,hx2⟩;have HX2:=hide hx2;have g2:=(HL.out.blk.ext hx2).cell (i:=2) rfl;have g3:=(HL.out.blk.ext hx2).cell (i:=3) rfl;have g4:=(HL.out.blk.ext hx2).cell (i:=4) rfl;have g5:=(HL.out.blk.ext hx2).cell (i:=5) rfl;have g6:=(HL.out.blk.ext hx2).cell (i:=6) rfl;have g7:=(HL.out.blk.ext hx2).cell (i:=7) rfl;have g8:=(fun (o:Obj)=>(HL.out.blk.ext (hx2.trans (Ext.alloc w2 o))).cell (i:=8) rfl);clear hx2)
       clear KF g2 g3 g4 g5 g6 g7 g8 c4 c8 h1i h2i h3i HBLK hfs
       first
         | (obtain ⟨w3,hw3⟩:∃w3,w2.alloc (.cells #[.int .u64 (L.hd.ep:Int), .int .u64 (L.hd.ep:Int), .int .u64 (st:Int), .int .u64 (fi:Int), .int .u64 (ck:Int), .int .u64 (L.hd.cn:Int)] 79)=w3:=⟨_,rfl⟩;rw [hw3];have HBX:Hid (Rw w3 w2.heap.size 79 [.int .u64 (L.hd.ep:Int), .int .u64 (oo:Int), .int .u64 (st:Int), .int .u64 (fi:Int), .int .u64 (ck:Int), .int .u64 (L.hd.cn:Int)]):=hide (by rw [hoo,← hw3];exact Rw.new w2 79 [.int .u64 (L.hd.ep:Int), .int .u64 (L.hd.ep:Int), .int .u64 (st:Int), .int .u64 (fi:Int), .int .u64 (ck:Int), .int .u64 (L.hd.cn:Int)]);have HX3:Hid (Ext w w3):=hide (by rw [← hw3];exact HX2.out.trans (Ext.alloc w2 _)))
         | (obtain ⟨w3,hw3⟩:∃w3,w2.alloc (.cells #[.int .u64 (L.hd.ep:Int), .int .u64 (L.hd.old:Int), .int .u64 (st:Int), .int .u64 (fi:Int), .int .u64 (ck:Int), .int .u64 (L.hd.cn:Int)] 79)=w3:=⟨_,rfl⟩;rw [hw3];have HBX:Hid (Rw w3 w2.heap.size 79 [.int .u64 (L.hd.ep:Int), .int .u64 (oo:Int), .int .u64 (st:Int), .int .u64 (fi:Int), .int .u64 (ck:Int), .int .u64 (L.hd.cn:Int)]):=hide (by rw [hoo,← hw3];exact Rw.new w2 79 [.int .u64 (L.hd.ep:Int), .int .u64 (L.hd.old:Int), .int .u64 (st:Int), .int .u64 (fi:Int), .int .u64 (ck:Int), .int .u64 (L.hd.cn:Int)]);have HX3:Hid (Ext w w3):=hide (by rw [← hw3];exact HX2.out.trans (Ext.alloc w2 _)))
       have HBS:Hid (w.heap.size≤w2.heap.size):=hide HX2.out.size
       obtain ⟨bx,HBE⟩:∃bx,Hid (w2.heap.size=bx):=⟨_,hide rfl⟩
       rw [HBE.out] at HBX HBS ⊢
       clear hw3 hoo
       have HL3:=hide (HL.out.ext_ HX3.out)
       have d0:=HL3.out.blk.cell (i:=0) rfl
       have d1:=HL3.out.blk.cell (i:=1) rfl
       have k0:=HBX.out.cell (i:=0) rfl
       have k1:=HBX.out.cell (i:=1) rfl
       have k2:=HBX.out.cell (i:=2) rfl
       have k3:=HBX.out.cell (i:=3) rfl
       have k4:=HBX.out.cell (i:=4) rfl
       have k5:=HBX.out.cell (i:=5) rfl
       go_region_law (first
         | (go_simp;go_at_call 50;(with_reducible refine (KW.out _ (HX3.out.trans (Ext.drew _))).mono ?_);rintro e w4 hp4;have HP4:=hide (LPost.of_disk (HL3.out.ext_ (Ext.drew _)) hp4);obtain ⟨A4,c4,rfl,-⟩:=hp4))
       all_goals
         clear d0 d1 k0 k1 k2 k3 k4 k5
         obtain ⟨X4,-,HL4,HF4,HN4⟩:=HP4.out
         replace HL4:=hide HL4
         replace HF4:=hide HF4
         replace HN4:=hide HN4
         have HB4:Hid (Rw w4 bx 79 [.int .u64 (L.hd.ep:Int), .int .u64 (oo:Int), .int .u64 (st:Int), .int .u64 (fi:Int), .int .u64 (ck:Int), .int .u64 (L.hd.cn:Int)]):=hide ((HF4.out.other bx (by have:=HBX.out.lt;simpa using this) (HNOT.out bx HBS.out)).trans (HBX.out.ext (Ext.drew _)))
         have hq4:X4.q=X.q:=HN4.out.q
         have hg4:X4.g=X.g:=HN4.out.g
         have g0:=HL4.out.blk.cell (i:=0) rfl
         rw [hq4,hg4] at g0
         have HG4:=hide hg4
         have HPA:=hide (LPost.pre (HX3.out.trans (Ext.drew _)) HP4.out)
         have HFA:Hid (Lfr X w w4):=hide ((Lfr.ext (HX3.out.trans (Ext.drew _))).trans HF4.out (Bk.Later.refl _ _))
         have HNA:Hid (X4.Later X w):=hide (HN4.out.up (HX3.out.trans (Ext.drew _)).size)
         clear HP4
         by_cases he1:e1=0
         · subst he1
           obtain ⟨e2,HE2⟩:∃e2,Hid (sE D1=e2):=⟨_,hide rfl⟩
           obtain ⟨D2,HD2⟩:∃D2,Hid (sD D1=D2):=⟨_,hide rfl⟩
           have HME2:Hid (xE=e2∧xD=D2):=hide (by rw [HME.out,HMD.out,if_neg (by decide),if_neg (by decide),HE2.out,HD2.out];exact ⟨rfl,rfl⟩)
           have KSY:=hide (gsync_any HL4.out HBD.out.1)
           rw [HE2.out,HD2.out,hg4] at KSY
           have HLT4:Hid (bx < w4.heap.size∧¬X4.has bx):=hide ⟨HB4.out.lt,fun hh=>by
             rcases HN4.out.has bx hh with h1 | h1
             · exact HNOT.out bx HBS.out h1
             · have:=HBX.out.lt
               simp at h1
               omega⟩
           clear hq4 hg4
           by_cases he2:e2=0
           · subst he2
             have HXL2:Hid (xL= { L with hd:= { L.hd with ck:=ck,st:=st,fi:=fi,old:=oo } }):=hide (by rw [HML.out,HME2.out.1,if_pos rfl,HMH.out])
             go_upto_region 18 with (go_at_call 47;(with_reducible refine KSY.out.mono ?_);rintro e w6 hp6;have HP6:=hide hp6;obtain ⟨X6',rfl,-⟩:=hp6)
             obtain ⟨X6,-,HL6,HF6,HN6⟩:=HP6.out
             replace HL6:=hide HL6
             replace HF6:=hide HF6
             replace HN6:=hide HN6
             have hq6:X6.q=X.q:=HN6.out.q.trans HN4.out.q
             have HB6:Hid (Rw w6 bx 79 [.int .u64 (L.hd.ep:Int), .int .u64 (oo:Int), .int .u64 (st:Int), .int .u64 (fi:Int), .int .u64 (ck:Int), .int .u64 (L.hd.cn:Int)]):=hide ((HF6.out.other bx HLT4.out.1 HLT4.out.2).trans HB4.out)
             have k0:=HB6.out.cell (i:=0) rfl
             have k1:=HB6.out.cell (i:=1) rfl
             have k2:=HB6.out.cell (i:=2) rfl
             have k3:=HB6.out.cell (i:=3) rfl
             have k4:=HB6.out.cell (i:=4) rfl
             have k5:=HB6.out.cell (i:=5) rfl
             have d2:=HL6.out.blk.cell (i:=2) rfl
             have d3:=HL6.out.blk.cell (i:=3) rfl
             have d4:=HL6.out.blk.cell (i:=4) rfl
             have d5:=HL6.out.blk.cell (i:=5) rfl
             have d6:=HL6.out.blk.cell (i:=6) rfl
             have d7:=HL6.out.blk.cell (i:=7) rfl
             have f2:=HL6.out.blk.frozen 2
             have f3:=HL6.out.blk.frozen 3
             have f4:=HL6.out.blk.frozen 4
             have f5:=HL6.out.blk.frozen 5
             have f6:=HL6.out.blk.frozen 6
             have f7:=HL6.out.blk.frozen 7
             have HPUT:=hide ((((((HL6.out.put 2 (.int .u64 (L.hd.ep:Int)) L rfl rfl).put 3 (.int .u64 (oo:Int)) { L with hd:= { L.hd with old:=oo } } rfl rfl).put 4 (.int .u64 (st:Int)) { L with hd:= { L.hd with st:=st,old:=oo } } rfl rfl).put 5 (.int .u64 (fi:Int)) { L with hd:= { L.hd with st:=st,fi:=fi,old:=oo } } rfl rfl).put 6 (.int .u64 (ck:Int)) { L with hd:= { L.hd with ck:=ck,st:=st,fi:=fi,old:=oo } } rfl rfl).put 7 (.int .u64 (L.hd.cn:Int)) { L with hd:= { L.hd with ck:=ck,st:=st,fi:=fi,old:=oo } } rfl rfl)
             have HFP:Hid (Lfr X6 w6 ((((((w6.setCell ⟨X6.q,2,none⟩ (.int .u64 (L.hd.ep:Int))).setCell ⟨X6.q,3,none⟩ (.int .u64 (oo:Int))).setCell ⟨X6.q,4,none⟩ (.int .u64 (st:Int))).setCell ⟨X6.q,5,none⟩ (.int .u64 (fi:Int))).setCell ⟨X6.q,6,none⟩ (.int .u64 (ck:Int))).setCell ⟨X6.q,7,none⟩ (.int .u64 (L.hd.cn:Int)))):=hide
               ((((((Lfr.cell X6 w6 2 _).trans (Lfr.cell X6 _ 3 _) (Bk.Later.refl _ _)).trans (Lfr.cell X6 _ 4 _) (Bk.Later.refl _ _)).trans (Lfr.cell X6 _ 5 _) (Bk.Later.refl _ _)).trans (Lfr.cell X6 _ 6 _) (Bk.Later.refl _ _)).trans (Lfr.cell X6 _ 7 _) (Bk.Later.refl _ _))
             rw [hq6] at d2 d3 d4 d5 d6 d7 f2 f3 f4 f5 f6 f7 HPUT HFP
             clear hq6
             go_wp2
             go_ret
             rw [HME2.out.1,HME2.out.2,HXL2.out]
             exact ⟨X6,rfl,HPUT.out,(HFA.out.trans HF6.out HNA.out).trans HFP.out (HNA.out.trans HN6.out HFA.out.size),HNA.out.trans HN6.out HFA.out.size⟩
           · have HXL2:Hid (xL=L):=hide (by rw [HML.out,HME2.out.1,if_neg he2])
             have hee:(e2 !=0)=true:=by simpa using he2
             clear he2
             go_wp2_with (go_at_call 47;(with_reducible refine KSY.out.mono ?_);rintro e w6 hp6;have HP6:=hide (LPost.trans HFA.out HNA.out hp6);obtain ⟨X6',rfl,-⟩:=hp6)
             go_ret
             rw [HME2.out.1,HME2.out.2,HXL2.out]
             exact HP6.out
         · have HME2:Hid (xE=e1∧xD=D1):=hide (by rw [HME.out,HMD.out,if_pos he1,if_pos he1];exact ⟨rfl,rfl⟩)
           have HXL2:Hid (xL=L):=hide (by rw [HML.out,HME2.out.1,if_neg he1])
           have hee:(e1 !=0)=true:=by simpa using he1
           clear he1
           go_wp2
           go_ret
           rw [HME2.out.1,HME2.out.2,HXL2.out]
           exact HPA.out
    · have HX:Hid (xE=ze∧xD=D∧xL=L):=hide (by rw [HML.out,HMD.out,HME.out,if_pos hze,if_pos hze,if_neg hze];exact ⟨rfl,rfl,rfl⟩)
      have hee:(ze !=0)=true:=by simpa using hze
      clear h ok b hpn ho hk hs hf hT hse hbad h1 h2 h3 hsu hze
      go_enter Tryz.func70,Tryz.ntmps70
      go_wp2_with (go_at_call 107;(with_reducible refine KF.out.mono ?_);rintro e w2 ⟨rfl,hx2⟩;have HX2:=hide hx2;clear hx2)
      go_ret
      rw [HX.out.1,HX.out.2.1,HX.out.2.2]
      exact LPost.still HL.out HX2.out rfl
end
def SortC:Prop:=∀(W:World) (B:Nat) (v:Value) (zs:List (Nat×Nat)),OwnD W B v zs→zs.length < 1000000→Calls Tryz.prog 130 #[v, .func (.func 131) #[] #[]] W (SortD W v zs)
section
variable {w0 w w1 w2 w':World} {Z Z' Z1:Pk} {s c:Nat} {S S' S1 S2:St} {R R' R1 R2:Sr} {P:Pl} {r:Value} {e:Ending}
theorem Pk.Later.settle {L:Lg} {P:Pl} {Z:Pk} {w:World}:Z.Later (settleP L P) Z P w:=by
 refine ⟨rfl,rfl,rfl,Bk.Later.refl _ _,fun k hk=> .inl ?_⟩
 rcases hk with hk | hk | hk | hk | ⟨i,f,hf,hk⟩
 ·exact .inl hk
 ·exact .inr (.inl hk)
 ·exact .inr (.inr (.inl hk))
 ·exact .inr (.inr (.inr (.inl hk)))
 ·refine .inr (.inr (.inr (.inr ⟨i,f, ?_,hk⟩)))
  rw [← hf]
  unfold settleP
  split <;> rfl
def DirtyP (w0 w:World) (Z:Pk) (s:Nat) (S:St) (R:Sr) (e:Ending) (w':World):Prop:=∃A cc zs,e= .returned (.tuple #[.slice A zs.length cc, .int .i64 0])∧DiL (settleP S.L S.P) zs∧StoAt w0 w' Z s ⟨S.D,S.L,settleP S.L S.P⟩ R∧Sfr Z s S.P w w'∧DRow w' A zs
theorem sdirty_any {nd:Nat} (h:StoAt w0 w Z s S R) (ok:S.P.Ok nd) (hm:S.P.m < 100000) (hsort:SortC) (hz:∀zs,DiL (settleP S.L S.P) zs→zs.length≤64):
  Calls Tryz.prog 69 #[.pointer (some ⟨s,0,none⟩)] w (DirtyP w0 w Z s S R):=by
 have KD:=hide (dirty_any h.pool ok hm hsort)
 have H:=hide h
 have HZ:=hide hz
 have c2:=h.blk.cell (i:=2) rfl
 clear h ok hm hsort hz
 go_enter Tryz.func69,Tryz.ntmps69
 go_upto_region 2 with (go_at_call 106;(with_reducible refine KD.out.mono ?_);rintro e2 w2 ⟨A2,cc2,zs,rfl,hd,hp,hf,hr⟩;have HD:=hide hd;have HPP:=hide hp;have HF:=hide hf;have HR:=hide hr;clear hd hp hf hr)
 have hle:((zs.length:Nat):Int)≤64:=by have:=HZ.out zs HD.out;omega
 go_wp2
 go_ret2
 exact ⟨A2,cc2,zs,rfl,HD.out,H.out.later (S':=⟨S.D,S.L,settleP S.L S.P⟩) HPP.out HF.out Pk.Later.settle,Sfr.of HF.out,HR.out⟩
theorem scheck_none (h:StoAt w0 w Z s S R) (ft:S.Fit c) (hc:c≤300000) (hm:S.P.m < 100000) (hT:Tab w0) (hop:R.op=false) (hsort:SortC) (hz:∀zs,DiL (settleP S.L S.P) zs→zs= []) (hfe:flE S.D S.L=0) (ft1:(⟨flD S.D S.L,flL S.D S.L,settleP S.L S.P⟩:St).Fit c) (hfi:(flL S.D S.L).hd.fi < 1152921504606846976) (hse:(flL S.D S.L).sure≤endOf (flL S.D S.L)):
  Calls Tryz.prog 40 #[.pointer (some ⟨s,0,none⟩)] w (SoPost w0 w Z s S.P (.int .i64 (mkE (flD S.D S.L) (flL S.D S.L) 0 (endOf (flL S.D S.L)))) ⟨mkD (flD S.D S.L) (flL S.D S.L) 0 (endOf (flL S.D S.L)),mkL (flD S.D S.L) (flL S.D S.L) 0 (endOf (flL S.D S.L)),settleP S.L S.P⟩ R):=by
 have hcn:S.L.hd.cn≤4096:=ft.log.cn.2
 have KD:=hide (sdirty_any h ft.pool hm hsort (fun zs hzs=>by rw [hz zs hzs];exact Nat.zero_le _))
 have HZ:=hide hz
 obtain ⟨P1,HP1⟩:∃P1,Hid (settleP S.L S.P=P1):=⟨_,hide rfl⟩
 obtain ⟨D1,HD1⟩:∃D1,Hid (flD S.D S.L=D1):=⟨_,hide rfl⟩
 obtain ⟨L1,HL1⟩:∃L1,Hid (flL S.D S.L=L1):=⟨_,hide rfl⟩
 have KF:Hid (∀W Z2,StoAt w0 W Z2 s ⟨S.D,S.L,P1⟩ R→Calls Tryz.prog 67 #[.pointer (some ⟨Z2.X.q,0,none⟩)] W (SoPost w0 W Z2 s P1 (.int .i64 0) ⟨D1,L1,P1⟩ R)):=hide (fun W Z2 hW=>by
  have k:=flush_any (show LgAt w0 W Z2.X S.D S.L from hW.pool.log) ft.log ft.bd (by have:=ft.pen;omega) (by have:=ft.ops;omega) (by have:=ft.tail;omega) hT
  rw [hfe,HD1.out,HL1.out] at k
  exact k.mono fun e w' hh=>hW.of_log hh)
 rw [HD1.out,HL1.out,HP1.out] at ft1
 rw [HL1.out] at hfi hse
 obtain ⟨en,HEN⟩:∃en,Hid (endOf L1=en):=⟨_,hide rfl⟩
 have hel:=endOf_lt (show L1.Ok D1 from ft1.log)
 have KM:Hid (∀W Z2,StoAt w0 W Z2 s ⟨D1,L1,P1⟩ R→Calls Tryz.prog 70 #[.pointer (some ⟨Z2.X.q,0,none⟩), .int .u64 0, .int .u64 (en:Int)] W (SoPost w0 W Z2 s P1 (.int .i64 (mkE D1 L1 0 en)) ⟨mkD D1 L1 0 en,mkL D1 L1 0 en,P1⟩ R)):=hide (fun W Z2 hW=>by
  have k:=mark_any (show LgAt w0 W Z2.X D1 L1 from hW.pool.log) ft1.log ft1.bd (by have h1:D1.pen.length≤c:=ft1.pen;omega) (by have h1:D1.ops≤c:=ft1.ops;omega) 0 en (by decide) (by have:=HEN.out;omega) hfi hse hT
  exact k.mono fun e w' hh=>hW.of_log hh)
 have KN:Hid (∀W Z2 A cc,StoAt w0 W Z2 s ⟨D1,L1,P1⟩ R→Calls Tryz.prog 71 #[.pointer (some ⟨s,0,none⟩), .slice A 0 cc] W (fun e w' =>e= .returned (.int .u64 (en:Int))∧Ext W w')):=hide (fun W Z2 A cc hW=>by
  have k:=sneeded_none hW ft1.log A cc
  rw [hop,if_neg (by decide)] at k
  rw [show endOf (⟨D1,L1,P1⟩:St).L=en from HEN.out] at k
  exact k)
 rw [HD1.out,HL1.out,HP1.out,HEN.out]
 obtain ⟨me,HME⟩:∃me,Hid (mkE D1 L1 0 en=me):=⟨_,hide rfl⟩
 rw [HME.out] at KM ⊢
 have HOP:=hide hop
 clear h ft hc hT hop hsort hz hfe ft1 hfi hse hel hcn
 go_enter Tryz.func40,Tryz.ntmps40
 go_upto_region 5 with (go_at_call 69;(with_reducible refine KD.out.mono ?_);rintro e2 w2 ⟨A2,cc2,zs,rfl,hd,h2,hf2,hr2⟩;obtain rfl:=HZ.out zs hd;rw [HP1.out] at h2;have H2:=hide h2;have HF2:=hide hf2;clear hd hr2 h2 hf2)
 have c5:=H2.out.blk.cell (i:=5) rfl
 have c1:=H2.out.blk.cell (i:=1) rfl
 rw [HOP.out] at c5
 go_upto_region 12 with (go_at_call 67;(with_reducible refine (KF.out w2 Z H2.out).mono ?_);rintro e3 w3 ⟨Z3,rfl,h3,hf3,hl3⟩;have H3:=hide h3;have HF3:=hide hf3;have HL3:=hide hl3;clear h3 hf3 hl3)
 have c1b:=H3.out.blk.cell (i:=1) rfl
 obtain ⟨w4,HW4⟩:∃w4,Hid (w3.drew=w4):=⟨_,hide rfl⟩
 have HX4:Hid (Ext w3 w4):=hide (by rw [← HW4.out];exact Ext.drew _)
 have H4:=hide (H3.out.ext_ HX4.out)
 have c1d:=H4.out.blk.cell (i:=1) rfl
 go_region_held3 (fun w' =>w'.cell? ⟨s,1,none⟩=some (.pointer (some ⟨Z3.X.q,0,none⟩))) (first | exact c1b | exact c1d | exact c15 | exact c16) (first
  | (go_at_call 71;rw [HW4.out];(with_reducible refine (KN.out w4 Z3 A2 cc2 H4.out).mono ?_);rintro e5 w5 ⟨rfl,hx5⟩;have H5:=hide (H4.out.ext_ hx5);have HX5:=hide (HX4.out.trans hx5);have c15:=H5.out.blk.cell (i:=1) rfl;clear hx5)
  | (go_at_call 70;(with_reducible refine (KM.out w5 Z3 H5.out).mono ?_);rintro e6 w6 hp6;have HP6:=hide hp6;have c16:w6.cell? ⟨s,1,none⟩=some (.pointer (some ⟨Z3.X.q,0,none⟩)):=(by obtain ⟨Z7,-,g1,-,g3⟩:=HP6.out;have h0:=g1.blk.cell (i:=1) rfl;rw [g3.X.q] at h0;exact h0);obtain ⟨Z6,rfl,-⟩:=hp6))
 all_goals
  go_wp2_with fail
  go_ret
  have hls:Z.Later P1 Z S.P w:=by rw [← HP1.out];exact Pk.Later.settle
  exact SoPost.then HF2.out hls (SoPost.then HF3.out HL3.out (SoPost.pre HX5.out HP6.out))
end
section
variable {w0 w w1:World} {X:Bk} {D D':Dk} {L L':Lg} {r:Value} {e:Ending} {w':World}
theorem read_at (h:LgAt w0 w X D L) (ok:L.Ok D) (b:Bd D) (hd:D.off=false) (a k:Nat) (hk:0 < k) (ha:a + 2 + k≤endOf L) (hf:L.hd.fi≤a) (h2:byE D L a 2=0) (hsz:szOf (byB D L a 2)=k) (h3:byE D L (a + 2) k=0) (hT:Tab w0):
  Calls Tryz.prog 104 #[.pointer (some ⟨X.q,0,none⟩), .int .u64 (a:Int)] w
   (fun e w' =>∃v,e= .returned (.tuple #[v, .int .u64 ((a + 2 + k:Nat):Int), .int .i64 0])∧Own w' w.heap.size v (byB D L (a + 2) k)∧Ext w w'):=by
 have HL:=hide h
 have KE:Hid (∀W,Ext w W→Calls Tryz.prog 75 #[.pointer (some ⟨X.q,0,none⟩)] W (fun e w' =>e= .returned (.int .u64 (endOf L:Int))∧∃m,w' =W.drewN m)):=hide (fun W hW=>end_any (h.ext_ hW) ok)
 have hel:=endOf_lt ok
 have hk12:k≤1200:=by rw [← hsz];exact szOf_le _
 have KB1:Hid (∀W,Ext w W→Calls Tryz.prog 128 #[.pointer (some ⟨X.q,0,none⟩), .int .u64 (a:Int), .int .i64 2] W (ThPost W (byB D L a 2) 0)):=hide (fun W hW=>by
  have q:=bytes_any (h.ext_ hW) ok b a 2 (by decide) (by omega) hT
  rw [h2] at q
  exact q)
 have KB2:Hid (∀W,Ext w W→Calls Tryz.prog 128 #[.pointer (some ⟨X.q,0,none⟩), .int .u64 ((a + 2:Nat):Int), .int .i64 (k:Int)] W (ThPost W (byB D L (a + 2) k) 0)):=hide (fun W hW=>by
  have q:=bytes_any (h.ext_ hW) ok b (a + 2) k (by omega) (by omega) hT
  rw [h3] at q
  exact q)
 have KON:Hid (∀W,Ext w W→Calls Tryz.prog 57 #[.pointer (some ⟨X.g,0,none⟩)] W (Same W (.bool true))):=hide (fun W hW=>by
  have k:=on_any (h.disk.ext hW)
  rw [hd] at k
  exact k)
 have HSPL:Hid ((byB D L a 2).length=2):=hide (by
  unfold byB
  rw [if_pos h2]
  exact byR_len 2 a 2 (Nat.le_refl _) (by omega) h2)
 have HBOL:Hid ((byB D L (a + 2) k).length=k):=hide (by
  unfold byB
  rw [if_pos h3]
  exact byR_len k (a + 2) k (Nat.le_refl _) (by omega) h3)
 obtain ⟨sp,HSP⟩:∃sp,Hid (byB D L a 2=sp):=⟨_,hide rfl⟩
 obtain ⟨bo,HBO⟩:∃bo,Hid (byB D L (a + 2) k=bo):=⟨_,hide rfl⟩
 rw [HSP.out] at KB1 hsz HSPL
 rw [HBO.out] at KB2 HBOL ⊢
 have KSZ:Hid (∀(W:World) (A:Option Addr) (c:Nat),Rd W A sp→Calls Tryz.prog 117 #[.slice A 2 c] W (fun e w' =>e= .returned (.int .i64 (k:Int))∧Ext W w')):=hide (fun W A c hr=>by
  have q:=sizeOf_any A sp 2 c W hr HSPL.out (by decide) (by decide)
  rw [hsz] at q
  exact q)
 have c0:=h.blk.cell (i:=0) rfl
 have c5:=h.blk.cell (i:=5) rfl
 obtain ⟨x,HX⟩:∃x:Int,Hid ((a:Int)=x):=⟨_,hide rfl⟩
 obtain ⟨y,HY⟩:∃y:Int,Hid ((endOf L:Int)=y):=⟨_,hide rfl⟩
 have hx0:0≤x∧x < 1200000000000000000:=by rw [← HX.out];omega
 have hfx:¬x < (L.hd.fi:Int):=by rw [← HX.out];omega
 have hxy:¬y < x:=by rw [← HX.out,← HY.out];omega
 have hxy2:(x==y)=false:=by rw [← HX.out,← HY.out];simp;omega
 have hx2:((a + 2:Nat):Int)=x + 2:=by rw [← HX.out];omega
 have hx3:((a + 2 + k:Nat):Int)=x + 2 + (k:Int):=by rw [← HX.out];omega
 rw [HX.out] at KB1 ⊢
 rw [hx2] at KB2
 rw [hx3]
 rw [HY.out] at KE
 have hw1:IntKind.u64.wrap (x + 2)=x + 2:=by rw [IntKind.wrap_u64];omega
 have hw2:IntKind.u64.wrap (x + 2 + (k:Int))=x + 2 + (k:Int):=by rw [IntKind.wrap_u64];omega
 have hw3:IntKind.u64.wrap (k:Int)=(k:Int):=by rw [IntKind.wrap_u64];omega
 have hk0:((k:Int)==0)=false:=by simp;omega
 clear h ok b hd hk ha hf h2 hsz h3 hT hel hk12 hx0 hx2 hx3
 go_enter Tryz.func104,Tryz.ntmps104
 go_wp2_with (first
  | (go_at_call 75;(with_reducible refine (KE.out _ (Ext.refl w)).mono ?_);rintro e w1 ⟨rfl,m1,rfl⟩)
  | (go_at_call 75;(with_reducible refine (KE.out _ ((Ext.refl w).drewN _)).mono ?_);rintro e w1 ⟨rfl,m2,rfl⟩)
  | (go_at_call 57;(with_reducible refine (KON.out _ ((Ext.refl w).drewN _)).mono ?_);rintro e w1 ⟨rfl,rfl⟩)
  | (go_at_call 128;(with_reducible refine (KB1.out _ ((Ext.refl w).drewN _)).mono ?_);rintro e w4 ⟨v4,rfl,ho4,hx4⟩;obtain ⟨A4,c4,hv4,-,hr4⟩:=ho4.bytes;rw [HSPL.out] at hv4;subst hv4;have HX4:Hid (Ext w w4):=hide (((Ext.refl w).drewN _).trans hx4);have HR4:=hide hr4;clear ho4 hx4 hr4)
  | (go_at_call 117;(with_reducible refine (KSZ.out _ A4 c4 HR4.out).mono ?_);rintro e w5 ⟨rfl,hx5⟩;have HX5:=hide (HX4.out.trans hx5);clear hx5)
  | (go_at_call 128;(with_reducible refine (KB2.out _ HX5.out).mono ?_);rintro e w6 ⟨v6,rfl,ho6,hx6⟩;have HX6:=hide (HX5.out.trans hx6);have HO6:=hide (ho6.low HX5.out.size);clear ho6 hx6))
 go_ret3
 exact ⟨_,rfl,HO6.out,HX6.out⟩
end
theorem rg_flW_bd (L:Lg) (T:Nat) (hT:L.tail.length≤T):∀(f k:Nat) (D:Dk),Bd D→D.pen.length + ((T + 479) / 480 - k) < 900000→D.ops + ((T + 479) / 480 - k) < 900000→
  Bd (flW L f k D).2∧(flW L f k D).2.pen.length≤D.pen.length + ((T + 479) / 480 - k)∧(flW L f k D).2.ops≤D.ops + ((T + 479) / 480 - k)∧(flW L f k D).2.dur.length=D.dur.length
 | 0,_,D,b,_,_=>⟨b,by show D.pen.length≤_;omega,by show D.ops≤_;omega,rfl⟩
 | f + 1,k,D,b,hp,ho=>by
  unfold flW
  split
  ·exact ⟨b,by show D.pen.length≤_;omega,by show D.ops≤_;omega,rfl⟩
  ·rename_i h1
   have hk:k < (T + 479) / 480:=by omega
   obtain ⟨b2,p2,o2,d2⟩:=wD_bd b (by omega) (by omega) (flS L k) (flP L k)
   split
   ·exact ⟨b2,by show (wD D (flS L k) (flP L k)).pen.length≤_;omega,by show (wD D (flS L k) (flP L k)).ops≤_;omega,d2⟩
   ·obtain ⟨b3,p3,o3,d3⟩:=rg_flW_bd L T hT f (k + 1) (wD D (flS L k) (flP L k)) b2 (by omega) (by omega)
    exact ⟨b3,by omega,by omega,by rw [d3,d2]⟩
theorem rg_flD_bd {D:Dk} {L:Lg} {T:Nat} (hT:L.tail.length≤T) (b:Bd D) (hp:D.pen.length + (T + 479) / 480 < 800000) (ho:D.ops + (T + 479) / 480 < 800000):
  Bd (flD D L)∧(flD D L).pen.length≤D.pen.length + (T + 479) / 480 + 1∧(flD D L).ops≤D.ops + (T + 479) / 480 + 1∧(flD D L).dur.length=D.dur.length:=by
 have h:Bd (flZ D L).2∧(flZ D L).2.pen.length≤D.pen.length + ((T + 479) / 480 - 0)∧(flZ D L).2.ops≤D.ops + ((T + 479) / 480 - 0)∧(flZ D L).2.dur.length=D.dur.length:=rg_flW_bd L T hT L.tail.length 0 D b (by omega) (by omega)
 unfold flD
 split
 ·exact ⟨b,by omega,by omega,rfl⟩
 ·split
  ·exact ⟨b,by omega,by omega,rfl⟩
  ·split
   ·exact ⟨h.1,by omega,by omega,h.2.2.2⟩
   ·obtain ⟨b3,p3,o3,d3⟩:=sD_bd h.1 (by omega)
    exact ⟨b3,by omega,by omega,by rw [d3,h.2.2.2]⟩
section
variable {D:Dk} {L L2:Lg} {n:Nat} {S H:List UInt8}
theorem rg_at_put (D:Dk) (hk:∀x∈D.pen,True) (i:Nat) (p:List UInt8) (j:Nat) (D':Dk) (h1:D'.dur=D.dur) (h2:D'.pen=D.pen ++ [(i,p)]):D'.at j=if j=i then p else D.at j:=by
 have hl:lastP (D.pen ++ [(i,p)]) j=if j=i then D.pen.length + 1 else lastP D.pen j:=by
  rw [lastP_snoc]
  by_cases e:j=i
  ·rw [if_pos e,if_pos e.symm]
  ·rw [if_neg e,if_neg (fun h=>e h.symm)]
 unfold Dk.at
 rw [h1,h2,hl]
 by_cases e:j=i
 ·rw [if_pos e,if_pos e,if_neg (by omega)]
  simp
 ·rw [if_neg e,if_neg e]
  rcases lastP_at D.pen.length D.pen j rfl with h | ⟨s,h3,h4,h5⟩
  ·rw [if_pos h,if_pos h]
  ·rw [if_neg (by omega),if_neg (by omega)]
   simp only [List.getD_eq_getElem?_getD]
   rw [List.getElem?_append_left (by omega)]
theorem rg_at_wD (h:Awk D) (i:Nat) (p:List UInt8) (hi:i < D.dur.length) (hp:p.length=512) (j:Nat):(wD D (i:Int) p).at j=if j=i then p else D.at j:=by
 obtain ⟨h1,h2⟩:=h
 refine rg_at_put D (fun _ _=>trivial) i p j _ ?_ ?_
 ·unfold wD
  rw [if_neg (by omega),if_neg (by omega),if_neg (by rw [h1];decide)]
  rfl
 ·unfold wD
  rw [if_neg (by omega),if_neg (by omega),if_neg (by rw [h1];decide),Int.toNat_natCast]
  rfl
theorem rg_durK_all (dur:List (List UInt8)) (pen:List (Nat×List UInt8)) (j:Nat) (hj:j < dur.length):∀k,k≤pen.length→(durK (fun _=>true) dur pen k).getD j []=if lastP (pen.take k) j=0 then dur.getD j [] else (pen.getD (lastP (pen.take k) j - 1) (0, [])).2
 | 0,_=>by rw [durK_zero,List.take_zero,lastP_nil,if_pos rfl]
 | k + 1,hk=>by
  have ih:=rg_durK_all dur pen j hj k (by omega)
  have hx:pen[k]? =some pen[k]:=List.getElem?_eq_getElem (by omega)
  rw [durK_succ _ _ _ _ _ hx,if_pos rfl,List.take_add_one,hx,Option.toList_some,lastP_snoc,List.length_take,Nat.min_eq_left (by omega)]
  by_cases e:pen[k].1=j
  ·rw [if_pos e,if_neg (by omega),Nat.add_sub_cancel,e]
   rw [List.getD_eq_getElem?_getD,List.getElem?_set_self (by rw [durK_len];exact hj),List.getD_eq_getElem?_getD,hx]
   rfl
  ·rw [if_neg e,← ih,List.getD_eq_getElem?_getD,List.getElem?_set_ne e,← List.getD_eq_getElem?_getD]
theorem rg_at_sD (h:Awk D) (j:Nat) (hj:j < D.dur.length):(sD D).at j=D.at j:=by
 obtain ⟨h1,h2⟩:=h
 unfold sD
 rw [if_neg (by rw [h1];decide),if_neg (by omega)]
 show (if lastP [] j=0 then (durK (fun _=>true) D.dur D.pen D.pen.length).getD j [] else _)=_
 rw [lastP_nil,if_pos rfl,rg_durK_all D.dur D.pen j hj _ (Nat.le_refl _),List.take_length]
 rfl
theorem rg_awk_sD (h:Awk D):Awk (sD D):=by
 obtain ⟨h1,h2⟩:=h
 unfold sD
 rw [if_neg (by rw [h1];decide),if_neg (by omega)]
 refine ⟨?_, ?_⟩
 ·show (D.off || decide (D.arm=1))=false
  rw [h1,h2];rfl
 ·show D.arm - 1=0
  omega
theorem rg_sD_pen (h:Awk D):(sD D).pen= []:=by
 obtain ⟨h1,h2⟩:=h
 unfold sD
 rw [if_neg (by rw [h1];decide),if_neg (by omega)]
 rfl
theorem gE_on (hon:D.off=false) {i:Nat} (hi:i < D.dur.length):gE D (i:Int)=0:=by
 unfold gE
 rw [if_neg (by omega),if_neg (by rw [hon];decide)]
theorem gB_on (hon:D.off=false) {i:Nat} (hi:i < D.dur.length):gB D (i:Int)=D.at i:=by
 unfold gB
 rw [if_neg (by omega),if_neg (by rw [hon];decide),Int.toNat_natCast]
theorem ptAt_seal (hon:D.off=false) {i:Nat} (hi:i < D.dur.length) (num ep:Nat) (p:List UInt8) (hb:D.at i=sealB 2 (ptNs num ep p.length) p) (hp:p.length≤480) (h1:num < 18446744073709551616) (h2:ep < 18446744073709551616):
  ptIs D (i:Int)=true∧ptAt D (i:Int)=⟨(num:Int),(ep:Int),(p.length:Int),p⟩:=by
 have hl:(ptNs num ep p.length).length≤6:=by simp [ptNs]
 have h3:ptIs D (i:Int)=true:=by
  unfold ptIs
  rw [gE_on hon hi,gB_on hon hi,hb,unsE_seal hl hp]
  rfl
 refine ⟨h3, ?_⟩
 unfold ptAt
 rw [if_pos h3,gB_on hon hi,hb]
 have n0:=numAt_seal (kind:=2) hl hp 0 (num:Int) rfl (by omega) (.inr (by decide))
 have n1:=numAt_seal (kind:=2) hl hp 1 (ep:Int) rfl (by omega) (.inr (by decide))
 have n2:=numAt_seal (kind:=2) hl hp 2 (p.length:Int) rfl (by omega) (.inr (by decide))
 have hle:ptLen (sealB 2 (ptNs num ep p.length) p)=p.length:=by
  unfold ptLen
  rw [n2]
  omega
 unfold ptOf
 rw [n0,n1,n2,hle,tail_seal hl hp]
structure Prt (D:Dk) (L:Lg) (j e:Nat) (p:List UInt8):Prop where
 there:ptThere D L (480 * j)=true
 ep:(ptAt D (secOf L (480 * j))).ep=(e:Int)
 by_:(ptAt D (secOf L (480 * j))).by_=p
theorem sec_part (L:Lg) (j:Nat):secOf L (480 * j)=L.at_ + 1 + j % L.hd.cn:=by
 unfold secOf
 rw [show 480 * j / 480=j by omega]
theorem Prt.of_seal (hon:D.off=false) {j e:Nat} {p:List UInt8} (hi:secOf L (480 * j) < D.dur.length) (hb:D.at (secOf L (480 * j))=sealB 2 (ptNs j e p.length) p) (hp:p.length≤480) (h1:j < 18446744073709551616) (h2:e < 18446744073709551616):Prt D L j e p:=by
 obtain ⟨a,b⟩:=ptAt_seal hon hi j e p hb hp h1 h2
 refine ⟨?_,by rw [b],by rw [b]⟩
 unfold ptThere
 rw [a,b]
 simp
def thr (L:Lg) (ep:Nat→Nat) (j:Nat):Nat:=if L.hd.fi / 480 < j then ep (j - 1) else L.hd.old
structure Dur (D:Dk) (L:Lg) (S:List UInt8) (ep:Nat→Nat):Prop where
 part:∀j,L.hd.fi / 480≤j→480 * j < S.length→Prt D L j (ep j) ((S.drop (480 * j)).take 480)
 mono:∀j k,j≤k→ep j≤ep k
 old:∀j,L.hd.old≤ep j∧ep j≤L.hd.ep
 last:¬S.length % 480=0→ep (S.length / 480)=L.hd.ep
 stale:∀j,S.length≤480 * j→ptThere D L (480 * j)=true→(ptAt D (secOf L (480 * j))).ep < (L.hd.ep:Int)∨((ptAt D (secOf L (480 * j))).ep=(L.hd.ep:Int)∧480 * j=S.length∧(ptAt D (secOf L (480 * j))).by_= [])
 stop:∀j,480 * j=S.length→ptThere D L (480 * j)=true→(ptAt D (secOf L (480 * j))).by_= []∨(ptAt D (secOf L (480 * j))).ep < (thr L ep j:Int)
theorem thP_full {ep:Nat→Nat} {a T:Nat} (hp:∀j,a≤j→j < T→Prt D L j (ep j) ((S.drop (480 * j)).take 480)) (hm:∀j k,j≤k→ep j≤ep k) (hT:480 * T≤S.length):∀(d j f:Nat) (e:Int),a≤j→T=j + d→d≤f→(d=0∨e≤(ep j:Int))→
  thP D L f (480 * j) e=(S.drop (480 * j)).take (480 * d) ++ thP D L (f - d) (480 * T) (if d=0 then e else (ep (T - 1):Int))
 | 0,j,f,e,_,h2,_,_=>by
  obtain rfl:T=j:=by omega
  rw [if_pos rfl,Nat.mul_zero,List.take_zero,Nat.sub_zero]
  rfl
 | d + 1,j,f,e,h1,h2,h3,h4=>by
  obtain ⟨f,rfl⟩:∃g,f=g + 1:=⟨f - 1,by omega⟩
  have hj:=hp j h1 (by omega)
  have he:e≤(ep j:Int):=by
   rcases h4 with h | h
   ·omega
   ·exact h
  have hl:((S.drop (480 * j)).take 480).length=480:=by rw [List.length_take,List.length_drop];omega
  have ih:=thP_full hp hm hT d (j + 1) f (ep j:Int) (by omega) (by omega) (by omega) (.inr (by have:=hm j (j + 1) (by omega);omega))
  have hee:(if d=0 then (ep j:Int) else (ep (T - 1):Int))=(ep (T - 1):Int):=by
   split
   ·rw [show T - 1=j by omega]
   ·rfl
  rw [hee] at ih
  have hst:thP D L (f + 1) (480 * j) e=(S.drop (480 * j)).take 480 ++ thP D L f (480 * j + 480) (ep j:Int):=by
   show (if ptThere D L (480 * j)=true∧¬(ptAt D (secOf L (480 * j))).ep < e then (if (ptAt D (secOf L (480 * j))).by_.length < 480 then (ptAt D (secOf L (480 * j))).by_ else (ptAt D (secOf L (480 * j))).by_ ++ thP D L f (480 * j + 480) (ptAt D (secOf L (480 * j))).ep) else [])=_
   rw [hj.there,hj.ep,hj.by_,if_pos ⟨rfl,by omega⟩,hl,if_neg (by omega)]
  rw [hst,show 480 * j + 480=480 * (j + 1) by omega,ih,if_neg (by omega),show f + 1 - (d + 1)=f - d by omega,← List.append_assoc]
  congr 1
  rw [show 480 * (j + 1)=480 * j + 480 by omega,← List.drop_drop,show 480 * (d + 1)=480 + 480 * d by omega,List.take_add]
/-! ### records one behind the other -/
def frm (p:List UInt8):List UInt8:=be2 p.length ++ p
def recsB (rs:List (List UInt8)):List UInt8:=(rs.map frm).flatten
def RecOk (p:List UInt8):Prop:=0 < p.length∧p.length≤1200
theorem frm_len (p:List UInt8):(frm p).length=2 + p.length:=by unfold frm;rw [List.length_append,be2_length]
theorem recsB_nil:recsB []= []:=rfl
theorem recsB_cons (p:List UInt8) (rs:List (List UInt8)):recsB (p::rs)=frm p ++ recsB rs:=by simp [recsB]
theorem recsB_app (a b:List (List UInt8)):recsB (a ++ b)=recsB a ++ recsB b:=by simp [recsB]
theorem be2_get (m:Nat) (h:m≤1200) (x:List UInt8):szOf (be2 m ++ x)=m:=by
 have e:be2 m= [b8 ((m:Int) / 256 % 256),b8 ((m:Int) % 256)]:=rfl
 have h0:(b8 ((m:Int) / 256 % 256)).toNat=m / 256:=by
  unfold b8
  rw [UInt8.toNat_ofNat']
  omega
 have h1:(b8 ((m:Int) % 256)).toNat=m % 256:=by
  unfold b8
  rw [UInt8.toNat_ofNat']
  omega
 unfold szOf
 rw [e]
 show (if (b8 ((m:Int) / 256 % 256)).toNat * 256 + (b8 ((m:Int) % 256)).toNat > 1200 then 0 else (b8 ((m:Int) / 256 % 256)).toNat * 256 + (b8 ((m:Int) % 256)).toNat)=m
 rw [h0,h1,if_neg (by omega)]
 omega
theorem whSz_frm (p x:List UInt8) (h:RecOk p):whSz (frm p ++ x)=2 + p.length:=by
 have hz:szOf (frm p ++ x)=p.length:=by unfold frm;rw [List.append_assoc];exact be2_get _ h.2 _
 obtain ⟨h1,h2⟩:=h
 unfold whSz
 rw [hz,List.length_append,frm_len,if_neg (by omega),if_neg (by omega)]
theorem runN_recs:∀(rs:List (List UInt8)) (pre:List UInt8) (f:Nat),(∀p∈rs,RecOk p)→rs.length≤f→runN (pre ++ recsB rs) f pre.length=pre.length + (recsB rs).length
 | [],pre,f,_,_=>by
  rw [recsB_nil,List.append_nil]
  cases f with
  | zero=>rfl
  | succ f=>
   unfold runN
   rw [List.drop_length,if_pos (by rfl)]
   rfl
 | p::rs,pre,f,h,hf=>by
  cases f with
  | zero=>simp at hf
  | succ f=>
   have hp:=h p (by simp)
   have e1:(pre ++ recsB (p::rs)).drop pre.length=frm p ++ recsB rs:=by rw [List.drop_left,recsB_cons]
   unfold runN
   rw [e1,whSz_frm p _ hp,if_neg (by omega)]
   have ih:=runN_recs rs (pre ++ frm p) f (fun q hq=>h q (by simp [hq])) (by simpa using hf)
   rw [List.append_assoc,List.length_append,frm_len,← recsB_cons] at ih
   rw [ih,recsB_cons,List.length_append,frm_len]
   omega
theorem runN_recsJ (J:List UInt8) (hJ:whSz J=0):∀(rs:List (List UInt8)) (pre:List UInt8) (f:Nat),(∀p∈rs,RecOk p)→rs.length≤f→runN (pre ++ (recsB rs ++ J)) f pre.length=pre.length + (recsB rs).length
 | [],pre,f,_,_=>by
  rw [recsB_nil,List.nil_append]
  cases f with
  | zero=>rfl
  | succ f=>
   unfold runN
   rw [List.drop_left,if_pos hJ]
   rfl
 | p::rs,pre,f,h,hf=>by
  cases f with
  | zero=>simp at hf
  | succ f=>
   have hp:=h p (by simp)
   have e1:(pre ++ (recsB (p::rs) ++ J)).drop pre.length=frm p ++ (recsB rs ++ J):=by rw [List.drop_left,recsB_cons,List.append_assoc]
   unfold runN
   rw [e1,whSz_frm p _ hp,if_neg (by omega)]
   have ih:=runN_recsJ J hJ rs (pre ++ frm p) f (fun q hq=>h q (by simp [hq])) (by simpa using hf)
   rw [List.append_assoc,List.length_append,frm_len,← List.append_assoc (frm p),← recsB_cons] at ih
   rw [ih,recsB_cons,List.length_append,frm_len]
   omega
theorem recs_cut:∀(rs:List (List UInt8)) (y:Nat),(∀p∈rs,RecOk p)→y≤(recsB rs).length→∃pre post,rs=pre ++ post∧(recsB pre).length≤y∧whSz ((recsB post).take (y - (recsB pre).length))=0
 | [],y,_,hy=>⟨[], [],rfl,Nat.zero_le _,by rw [recsB_nil,List.take_nil];rfl⟩
 | p::rs,y,h,hy=>by
  have hp:=h p (by simp)
  rw [recsB_cons,List.length_append,frm_len] at hy
  by_cases hl:y < 2 + p.length
  ·refine ⟨[],p::rs,rfl,Nat.zero_le _, ?_⟩
   rw [recsB_nil,recsB_cons]
   show whSz ((frm p ++ recsB rs).take y)=0
   rw [List.take_append_of_le_length (by rw [frm_len];omega)]
   unfold whSz
   by_cases h2:y < 2
   ·rw [if_pos (by rw [List.length_take,frm_len];omega)]
   ·rw [if_neg (by rw [List.length_take,frm_len];omega)]
    have hz:szOf ((frm p).take y)=p.length:=by
     unfold frm
     obtain ⟨k,rfl⟩:∃k,y=2 + k:=⟨y - 2,by omega⟩
     have e:(be2 p.length ++ p).take (2 + k)=be2 p.length ++ p.take k:=by
      rw [List.take_append,be2_length,List.take_of_length_le (by rw [be2_length];omega),Nat.add_sub_cancel_left]
     rw [e]
     exact be2_get _ hp.2 _
    rw [hz,if_pos (.inr (by rw [List.length_take,frm_len];omega))]
  ·obtain ⟨pre,post,e1,e2,e3⟩:=recs_cut rs (y - (2 + p.length)) (fun q hq=>h q (by simp [hq])) (by omega)
   refine ⟨p::pre,post,by rw [e1];rfl,by rw [recsB_cons,List.length_append,frm_len];omega, ?_⟩
   rw [recsB_cons,List.length_append,frm_len,show y - (2 + p.length + (recsB pre).length)=y - (2 + p.length) - (recsB pre).length by omega]
   exact e3
/-! ### reading -/
theorem byR_is {ep:Nat→Nat} (hon:D.off=false) (h:Dur D L (H.take L.sure) ep) (hs:L.sure≤H.length) (ht:L.tail=H.drop (flo L.sure)):∀(f a m:Nat),m≤f→L.hd.fi≤a→a + m≤H.length→byR D L f a m=(0,(H.drop a).take m)
 | 0,a,m,hf,_,_=>by
  obtain rfl:m=0:=by omega
  rfl
 | f + 1,a,m,hf,hfi,ha=>by
  unfold byR
  by_cases hm:m=0
  ·subst hm
   rw [if_pos rfl]
   rfl
  ·rw [if_neg hm]
   have hfl:=flo_le L.sure
   have hr:rsE D L a=0∧∃q,0 < q∧rsB D L a=(H.drop a).take q:=by
    unfold rsE rsB
    by_cases hin:flo L.sure≤a
    ·rw [if_pos hin,if_pos hin]
     refine ⟨rfl,H.length,by omega, ?_⟩
     rw [ht,List.drop_drop,show flo L.sure + (a - flo L.sure)=a by omega,List.take_of_length_le (by rw [List.length_drop];omega)]
    ·have hj:480 * (a / 480) + 480≤L.sure:=by unfold flo at hin;omega
     have hlen:(H.take L.sure).length=L.sure:=by rw [List.length_take];omega
     have hp:=h.part (a / 480) (Nat.div_le_div_right hfi) (by rw [hlen];omega)
     have hsec:secOf L (480 * (a / 480))=secOf L a:=by unfold secOf;rw [show 480 * (a / 480) / 480=a / 480 by omega]
     have hth:ptThere D L a=true:=by
      have k:=hp.there
      unfold ptThere at k ⊢
      rw [hsec,show 480 * (a / 480) / 480=a / 480 by omega] at k
      exact k
     have hby:=hp.by_
     rw [hsec] at hby
     have hbl:(ptAt D (secOf L a)).by_.length=480:=by rw [hby,List.length_take,List.length_drop,hlen];omega
     rw [if_neg hin,if_neg hin,hon,if_neg Bool.false_ne_true,if_neg Bool.false_ne_true,if_pos ⟨hth,by omega⟩,if_pos ⟨hth,by omega⟩]
     refine ⟨rfl,480 - a % 480,by omega, ?_⟩
     rw [hby]
     apply List.ext_getElem?
     intro i
     rw [List.getElem?_drop,List.getElem?_take,List.getElem?_take,List.getElem?_drop,List.getElem?_take,List.getElem?_drop,show 480 * (a / 480) + (a % 480 + i)=a + i by omega]
     by_cases hi:i < 480 - a % 480
     ·rw [if_pos (by omega),if_pos (by omega),if_pos hi]
     ·rw [if_neg (by omega),if_neg hi]
   obtain ⟨r0,q,hq,hrb⟩:=hr
   rw [r0,if_neg (by decide),hrb,List.take_take]
   have hl:((H.drop a).take (min m q)).length=min m q:=by rw [List.length_take,List.length_drop];omega
   rw [hl,byR_is hon h hs ht f (a + min m q) (m - min m q) (by omega) (by omega) (by omega)]
   have e:(H.drop a).take m=(H.drop a).take (min m q) ++ (H.drop (a + min m q)).take (m - min m q):=by
    rw [← List.drop_drop,← List.take_add,show min m q + (m - min m q)=m by omega]
   rw [e]
theorem byE_is {ep:Nat→Nat} (hon:D.off=false) (h:Dur D L (H.take L.sure) ep) (hs:L.sure≤H.length) (ht:L.tail=H.drop (flo L.sure)) (a m:Nat) (hfi:L.hd.fi≤a) (ha:a + m≤H.length):byE D L a m=0∧byB D L a m=(H.drop a).take m:=by
 have k:=byR_is hon h hs ht m a m (Nat.le_refl _) hfi ha
 have k1:byE D L a m=0:=by unfold byE;rw [k]
 refine ⟨k1, ?_⟩
 unfold byB
 rw [if_pos k1,k]
theorem ffR_is {ep:Nat→Nat} (hon:D.off=false) (h:Dur D L (H.take L.sure) ep) (hs:L.sure≤H.length) (ht:L.tail=H.drop (flo L.sure)) (he:endOf L=H.length):∀(rs more:List (List UInt8)) (a f:Nat),(∀p∈rs,RecOk p)→L.hd.fi≤a→H.drop a=recsB (rs ++ more)→rs.length < f→ffR D L (a + (recsB rs).length) f a=(0,a + (recsB rs).length)
 | [],more,a,f,_,_,_,hf=>by
  cases f with
  | zero=>simp at hf
  | succ f=>
   unfold ffR
   rw [recsB_nil,if_pos (by simp)]
   rfl
 | p::rs,more,a,f,hr,hfi,hH,hf=>by
  cases f with
  | zero=>simp at hf
  | succ f=>
   have hp:=hr p (by simp)
   have hH2:H.drop a=frm p ++ recsB (rs ++ more):=by rw [hH,List.cons_append,recsB_cons]
   have hlen:H.length - a=2 + p.length + (recsB (rs ++ more)).length:=by rw [← List.length_drop,hH2,List.length_append,frm_len]
   have hb:=byE_is hon h hs ht a 2 hfi (by omega)
   have h2:by2E D L a=0:=by unfold by2E;rw [he,if_pos (by omega)];exact hb.1
   have h3:szOf (by2B D L a)=p.length:=by
    unfold by2B
    rw [he,if_pos (by omega),hb.2,hH2]
    unfold frm
    rw [List.append_assoc,show (be2 p.length ++ (p ++ recsB (rs ++ more))).take 2=be2 p.length ++ [] by rw [List.append_nil];exact List.take_left' (be2_length _)]
    exact be2_get _ hp.2 _
   unfold ffR
   rw [recsB_cons,List.length_append,frm_len,if_neg (by omega),h2,if_neg (by decide),h3]
   have ih:=ffR_is hon h hs ht he rs more (a + (2 + p.length)) f (fun q hq=>hr q (by simp [hq])) (by omega) (by
    rw [← List.drop_drop,hH2]
    exact List.drop_left' (frm_len p)) (by simpa using hf)
   rw [show a + (2 + p.length + (recsB rs).length)=a + (2 + p.length) + (recsB rs).length by omega]
   exact ih
end
structure Rg (D:Dk) (L:Lg) (H:List UInt8):Prop where
 awk:Awk D
 pen:D.pen= []
 bd:Bd D
 hd:L.hd.Ok
 cn:4≤L.hd.cn∧L.hd.cn≤4096
 at_:L.at_ + 1 + L.hd.cn≤D.dur.length
 tail:L.tail=H.drop (flo L.sure)
 sure:L.sure≤H.length
 st:480≤L.hd.st∧L.hd.st≤L.hd.fi∧L.hd.fi≤L.sure
 fs:L.hd.fi=L.hd.st
 ck:L.hd.ck≤L.sure
 held:L.held=0
 ring:H.length≤(L.hd.st / 480 + L.hd.cn) * 480
 big:H.length < 1000000000000
 epo:L.hd.ep < 1000000000000
 head:D.at L.at_=sealB 1 L.hd.ns []
 dur:∃ep,Dur D L (H.take L.sure) ep
section
variable {D D2:Dk} {L L2:Lg} {H S:List UInt8} {ep:Nat→Nat} {n:Nat}
theorem Rg.end_ (h:Rg D L H):endOf L=H.length:=by
 have h1:=h.sure
 have h2:=flo_le L.sure
 unfold endOf
 rw [h.tail,List.length_drop]
 omega
theorem Rg.tail_len (h:Rg D L H):L.tail.length≤480 * L.hd.cn:=by
 have h1:=h.ring
 have h2:=h.st
 rw [h.tail,List.length_drop]
 unfold flo
 omega
theorem Rg.ok (h:Rg D L H):L.Ok D:=⟨h.hd,h.cn,h.at_,by have:=h.sure;have:=h.big;omega,by have:=h.tail_len;have:=h.cn;omega,by rw [h.held];decide⟩
theorem Rg.on (h:Rg D L H):D.off=false:=h.awk.1
theorem Rg.sec (h:Rg D L H) (a:Nat):secOf L a < D.dur.length∧secOf L a≠L.at_:=by
 have h1:=Nat.mod_lt (a / 480) (show 0 < L.hd.cn by have:=h.cn;omega)
 have h2:=h.at_
 unfold secOf
 omega
theorem sec_ne {cn a b:Nat} (h:a < b) (h2:b < a + cn):a % cn≠b % cn:=fun e=>by
 have h3:=Nat.div_add_mod a cn
 have h4:=Nat.div_add_mod b cn
 rw [← e] at h4
 rcases Nat.lt_or_ge (a / cn) (b / cn) with h5 | h5
 ·have h6:=Nat.mul_le_mul_left cn (show a / cn + 1≤b / cn from h5)
  rw [Nat.mul_add,Nat.mul_one] at h6
  omega
 ·have h6:=Nat.mul_le_mul_left cn h5
  omega
theorem lsec_far {L:Lg} {a b:Nat} (h:a≠b) (h1:a < b + L.hd.cn) (h2:b < a + L.hd.cn):secOf L (480 * a)≠secOf L (480 * b):=by
 rw [sec_part,sec_part]
 rcases Nat.lt_or_gt_of_ne h with h3 | h3
 ·have:=sec_ne h3 h2
  omega
 ·have:=sec_ne h3 h1
  omega
theorem ptAt_same (hon:D.off=false) (hon2:D2.off=false) (hl:D2.dur.length=D.dur.length) {s:Nat} (hs:s < D.dur.length) (h:D2.at s=D.at s):ptIs D2 (s:Int)=ptIs D (s:Int)∧ptAt D2 (s:Int)=ptAt D (s:Int):=by
 have e1:ptIs D2 (s:Int)=ptIs D (s:Int):=by
  unfold ptIs
  rw [gE_on hon hs,gE_on hon2 (by rw [hl];exact hs),gB_on hon hs,gB_on hon2 (by rw [hl];exact hs),h]
 refine ⟨e1, ?_⟩
 unfold ptAt
 rw [e1,gB_on hon hs,gB_on hon2 (by rw [hl];exact hs),h]
theorem sec_log (h1:L2.at_=L.at_) (h2:L2.hd.cn=L.hd.cn) (a:Nat):secOf L2 a=secOf L a:=by unfold secOf;rw [h1,h2]
theorem there_same (hon:D.off=false) (hon2:D2.off=false) (hl:D2.dur.length=D.dur.length) (h1:L2.at_=L.at_) (h2:L2.hd.cn=L.hd.cn) {a:Nat} (hs:secOf L a < D.dur.length) (h:D2.at (secOf L a)=D.at (secOf L a)):ptThere D2 L2 a=ptThere D L a∧ptAt D2 (secOf L2 a)=ptAt D (secOf L a):=by
 obtain ⟨e1,e2⟩:=ptAt_same hon hon2 hl hs h
 rw [sec_log h1 h2]
 refine ⟨?_,e2⟩
 unfold ptThere
 rw [sec_log h1 h2,e1,e2]
theorem Prt.same {j e:Nat} {p:List UInt8} (hp:Prt D L j e p) (hon:D.off=false) (hon2:D2.off=false) (hl:D2.dur.length=D.dur.length) (h1:L2.at_=L.at_) (h2:L2.hd.cn=L.hd.cn) (hs:secOf L (480 * j) < D.dur.length) (h:D2.at (secOf L (480 * j))=D.at (secOf L (480 * j))):Prt D2 L2 j e p:=by
 obtain ⟨e1,e2⟩:=there_same hon hon2 hl h1 h2 hs h
 exact ⟨by rw [e1];exact hp.there,by rw [e2];exact hp.ep,by rw [e2];exact hp.by_⟩
theorem thr_log {ep:Nat→Nat} (h3:L2.hd.fi=L.hd.fi) (h4:L2.hd.old=L.hd.old) (j:Nat):thr L2 ep j=thr L ep j:=by unfold thr;rw [h3,h4]
theorem Dur.same (h:Dur D L S ep) (hon:D.off=false) (hon2:D2.off=false) (hl:D2.dur.length=D.dur.length) (h1:L2.at_=L.at_) (h2:L2.hd.cn=L.hd.cn) (h3:L2.hd.fi=L.hd.fi) (h4:L2.hd.old=L.hd.old) (h5:L2.hd.ep=L.hd.ep) (hs:∀a,secOf L a < D.dur.length) (hd:∀a,D2.at (secOf L a)=D.at (secOf L a)):Dur D2 L2 S ep:=by
 refine ⟨fun j k1 k2=>(h.part j (by rw [← h3];exact k1) k2).same hon hon2 hl h1 h2 (hs _) (hd _),h.mono,fun j=>by rw [h4,h5];exact h.old j,fun k=>by rw [h5];exact h.last k,fun j k1 k2=> ?_,fun j k1 k2=> ?_⟩
 ·obtain ⟨e1,e2⟩:=there_same hon hon2 hl h1 h2 (hs (480 * j)) (hd _)
  rw [e1] at k2
  rw [e2,h5]
  exact h.stale j k1 k2
 ·obtain ⟨e1,e2⟩:=there_same hon hon2 hl h1 h2 (hs (480 * j)) (hd _)
  rw [e1] at k2
  rw [e2,thr_log h3 h4]
  exact h.stop j k1 k2
/-! ### Append -/
theorem Rg.room (h:Rg D L H):roomOf L=(((L.hd.st / 480 + L.hd.cn) * 480:Nat):Int) - (H.length:Int):=by
 unfold roomOf
 rw [h.end_,h.held]
 omega
theorem Rg.app (h:Rg D L H) (p:List UInt8) (hp:RecOk p) (hr:H.length + 2 + p.length≤(L.hd.st / 480 + L.hd.cn) * 480) (hb:H.length + 2 + p.length < 1000000000000):
  apE L p.length 0=0∧Rg D (apL L p 0) (H ++ frm p)∧(apL L p 0).hd=L.hd∧(apL L p 0).sure=L.sure∧(apL L p 0).at_=L.at_:=by
 have hE:apE L p.length 0=0:=by
  unfold apE
  have h1:=hp.1
  have h2:=hp.2
  rw [h.room,if_neg (by omega),if_neg (by omega),if_neg (by omega)]
 have hL:apL L p 0=addL (heldL L 0) p:=by unfold apL;rw [hE,if_pos rfl]
 rw [hL]
 have hsu:=h.sure
 have hlen:(H ++ frm p).length=H.length + 2 + p.length:=by rw [List.length_append,frm_len];omega
 refine ⟨hE,⟨h.awk,h.pen,h.bd,h.hd,h.cn,h.at_, ?_, ?_,h.st,h.fs,h.ck,h.held, ?_, ?_,h.epo,h.head, ?_⟩,rfl,rfl,rfl⟩
 ·show (L.tail ++ be2 p.length) ++ p=(H ++ frm p).drop (flo L.sure)
  rw [List.drop_append_of_le_length (Nat.le_trans (flo_le _) hsu),h.tail,List.append_assoc]
  rfl
 ·show L.sure≤_
  omega
 ·show _≤(L.hd.st / 480 + L.hd.cn) * 480
  omega
 ·omega
 ·obtain ⟨ep,hd⟩:=h.dur
  refine ⟨ep, ?_⟩
  show Dur D (addL (heldL L 0) p) ((H ++ frm p).take L.sure) ep
  rw [List.take_append_of_le_length hsu]
  exact hd.same h.on h.on rfl rfl rfl rfl rfl rfl (fun a=>(h.sec a).1) (fun a=>rfl)
/-! ### Flush -/
theorem flA_part (L:Lg) (i:Nat):flA L i=480 * (L.sure / 480 + i):=by unfold flA flo;omega
theorem flP_len (L:Lg) (i:Nat):(flP L i).length=512:=by
 unfold flP partB
 exact sealB_length (by simp [ptNs]) (by rw [List.length_take];omega)
theorem flW_read (L:Lg) (hc:L.at_ + 1 + L.hd.cn≤n) (h0:0 < L.hd.cn) (ht:L.tail.length≤480 * L.hd.cn):∀(f k:Nat) (D:Dk),Awk D→D.dur.length=n→L.tail.length≤480 * (k + f)→
  (∀i,k≤i→480 * i < L.tail.length→(flW L f k D).2.at (secOf L (flA L i))=flP L i)∧(∀s,(∀i,k≤i→480 * i < L.tail.length→secOf L (flA L i)≠s)→(flW L f k D).2.at s=D.at s)
 | 0,k,D,_,_,hf=>⟨fun i h1 h2=>absurd h2 (by omega),fun s _=>rfl⟩
 | f + 1,k,D,h,hd,hf=>by
  unfold flW
  split
  ·rename_i hk
   exact ⟨fun i h1 h2=>absurd h2 (by omega),fun s _=>rfl⟩
  ·rename_i hk
   have hlt:secOf L (flA L k) < D.dur.length:=by
    have:=Nat.mod_lt (flA L k / 480) h0
    unfold secOf
    omega
   have hw:=awk_write h (secOf L (flA L k)) (flP L k) hlt (flP_len L k)
   have e1:wE D (flS L k) (flP L k)=0:=hw.1
   rw [e1,if_neg (by decide)]
   obtain ⟨a1,a2⟩:=flW_read L hc h0 ht f (k + 1) (wD D (flS L k) (flP L k)) hw.2.1 (by rw [← hd];exact hw.2.2) (by omega)
   have hat:=fun j=>rg_at_wD h (secOf L (flA L k)) (flP L k) hlt (flP_len L k) j
   refine ⟨fun i h1 h2=> ?_,fun s hs=> ?_⟩
   ·rcases Nat.lt_or_ge k i with h3 | h3
    ·exact a1 i h3 h2
    ·obtain rfl:i=k:=by omega
     rw [a2 (secOf L (flA L i)) (fun i2 h4 h5=>by
      rw [flA_part,flA_part]
      exact lsec_far (by omega) (by omega) (by omega))]
     have h6:=hat (secOf L (flA L i))
     rw [if_pos rfl] at h6
     exact h6
   ·rw [a2 s (fun i h1 h2=>hs i (by omega) h2)]
    have h6:=hat s
    rw [if_neg (fun e=>hs k (Nat.le_refl _) (by omega) e.symm)] at h6
    exact h6
theorem Rg.flush (h:Rg D L H) (ho:D.ops < 400000):flE D L=0∧Rg (flD D L) (flL D L) H∧(flL D L).sure=H.length∧(flL D L).hd=L.hd∧(flL D L).at_=L.at_∧(flD D L).ops≤D.ops + (L.tail.length + 479) / 480 + 1∧(flD D L).dur.length=D.dur.length:=by
 have hc0:0 < L.hd.cn:=by have:=h.cn;omega
 have htl:=h.tail_len
 have hcn:=h.cn
 have hz:=awk_flW L h.at_ hc0 L.tail.length 0 D h.awk rfl
 have hz1:(flZ D L).1=0:=hz.1
 have hz2:Awk (flZ D L).2:=hz.2.1
 have hz3:(flZ D L).2.dur.length=D.dur.length:=hz.2.2
 obtain ⟨b1,b2,b3,b4⟩:=rg_flD_bd (D:=D) (L:=L) (T:=L.tail.length) (Nat.le_refl _) h.bd (by rw [h.pen];show 0 + _ < _;omega) (by omega)
 have hE:flE D L=0:=by
  unfold flE
  rw [if_neg (by rw [h.on];decide)]
  split
  ·rfl
  ·rw [hz1,if_neg (by decide)]
   exact awk_sync hz2
 by_cases hs:L.sure=endOf L
 ·have e1:flD D L=D:=by unfold flD;rw [if_neg (by rw [h.on];decide),if_pos hs]
  have e2:flL D L=L:=by unfold flL;rw [if_neg (fun hh=>hh.2 hs)]
  rw [e1] at b3
  rw [e1,e2]
  exact ⟨hE,h,by rw [hs,h.end_],rfl,rfl,b3,rfl⟩
 ·have e1:flD D L=sD (flZ D L).2:=by unfold flD;rw [if_neg (by rw [h.on];decide),if_neg hs,hz1,if_neg (by decide)]
  have e2:flL D L=sureL L:=by unfold flL;rw [if_pos ⟨hE,hs⟩]
  rw [e1] at b1 b2 b3 b4
  rw [e1,e2]
  have hsl:H.length=endOf L:=h.end_.symm
  have hsu:=h.sure
  have hri:=h.ring
  have hst:=h.st
  have hne:L.sure < H.length:=by omega
  have hawk:=rg_awk_sD hz2
  have hlt:L.tail.length=H.length - flo L.sure:=by rw [h.tail,List.length_drop]
  obtain ⟨r1,r2⟩:=flW_read L h.at_ hc0 htl L.tail.length 0 D h.awk rfl (by omega)
  have hat:∀s,s < D.dur.length→(sD (flZ D L).2).at s=(flZ D L).2.at s:=fun s hs=>rg_at_sD hz2 s (by rw [hz3];exact hs)
  have hold:∀s,s < D.dur.length→(∀i,480 * i < L.tail.length→secOf L (flA L i)≠s)→(sD (flZ D L).2).at s=D.at s:=fun s h1 h2=>by
   rw [hat s h1]
   exact r2 s (fun i _ h3=>h2 i h3)
  have hnew:∀i,480 * i < L.tail.length→(sD (flZ D L).2).at (secOf L (flA L i))=flP L i:=fun i h1=>by
   rw [hat _ (h.sec _).1]
   exact r1 i (Nat.zero_le _) h1
  obtain ⟨ep,hd⟩:=h.dur
  have htk:(H.take L.sure).length=L.sure:=by rw [List.length_take];omega
  have hfl:flo L.sure=480 * (L.sure / 480):=by unfold flo;omega
  refine ⟨hE,⟨hawk,rg_sD_pen hz2,b1,h.hd,h.cn,by rw [b4];exact h.at_, ?_, ?_, ?_,h.fs, ?_,h.held,h.ring,h.big,h.epo, ?_, ?_⟩,by show endOf L=_;omega,rfl,rfl,b3,b4⟩
  ·show L.tail.drop (flo L.tail.length)=H.drop (flo (endOf L))
   rw [h.tail,List.drop_drop,List.length_drop,← hsl]
   congr 1
   unfold flo
   omega
  ·show endOf L≤_
   omega
  ·show 480≤L.hd.st∧L.hd.st≤L.hd.fi∧L.hd.fi≤endOf L
   omega
  ·show L.hd.ck≤endOf L
   have:=h.ck
   omega
  ·show (sD (flZ D L).2).at L.at_=sealB 1 L.hd.ns []
   rw [hold L.at_ (by have:=h.at_;omega) (fun i _=>(h.sec _).2)]
   exact h.head
  ·refine ⟨fun j=>if j < L.sure / 480 then ep j else L.hd.ep, ?_⟩
   show Dur _ (sureL L) (H.take (endOf L)) _
   rw [← hsl,List.take_length]
   have hnst:∀j,H.length≤480 * j→ptThere (sD (flZ D L).2) L (480 * j)=true→(ptAt (sD (flZ D L).2) (secOf L (480 * j))).ep < (L.hd.ep:Int):=fun j k1 k2=>by
    by_cases hex:∃i,480 * i < L.tail.length∧secOf L (flA L i)=secOf L (480 * j)
    ·exfalso
     obtain ⟨i,hi,hse⟩:=hex
     have hn:=hnew i hi
     rw [hse] at hn
     have hpl:((L.tail.drop (480 * i)).take 480).length≤480:=by rw [List.length_take];omega
     obtain ⟨p1,p2⟩:=ptAt_seal (D:=sD (flZ D L).2) hawk.1 (i:=secOf L (480 * j)) (by rw [b4];exact (h.sec _).1) (flA L i / 480) L.hd.ep ((L.tail.drop (480 * i)).take 480) hn hpl (by rw [flA_part];have:=h.big;omega) h.hd.ep
     unfold ptThere at k2
     rw [p1,p2] at k2
     simp only [Bool.true_and,decide_eq_true_eq] at k2
     rw [flA_part] at k2
     omega
    ·have hsm:=hold (secOf L (480 * j)) (h.sec _).1 (fun i hi e=>hex ⟨i,hi,e⟩)
     obtain ⟨q1,q2⟩:=there_same (L2:=L) h.on hawk.1 b4 rfl rfl (h.sec _).1 hsm
     rw [q1] at k2
     rw [q2]
     rcases hd.stale j (by omega) k2 with q3 | ⟨-,q3,-⟩
     ·exact q3
     ·omega
   refine ⟨fun j k1 k2=> ?_,fun j k hjk=> ?_,fun j=> ?_,fun _=> ?_,fun j k1 k2=> .inl (hnst j k1 k2),fun j k1 k2=> .inr ?_⟩
   ·have k1:L.hd.fi / 480≤j:=k1
    by_cases hj:j < L.sure / 480
    ·rw [if_pos hj]
     have hp:=hd.part j k1 (by omega)
     have e5:((H.take L.sure).drop (480 * j)).take 480=(H.drop (480 * j)).take 480:=by
      rw [List.drop_take,List.take_take,Nat.min_eq_left (by omega)]
     rw [e5] at hp
     refine hp.same h.on hawk.1 b4 rfl rfl (h.sec _).1 (hold _ (h.sec _).1 (fun i hi=> ?_))
     rw [flA_part]
     exact lsec_far (by omega) (by omega) (by omega)
    ·rw [if_neg hj]
     obtain ⟨i,rfl⟩:∃i,j=L.sure / 480 + i:=⟨j - L.sure / 480,by omega⟩
     have hi:480 * i < L.tail.length:=by omega
     have hn:=hnew i hi
     rw [flA_part] at hn
     have e6:(L.tail.drop (480 * i)).take 480=(H.drop (480 * (L.sure / 480 + i))).take 480:=by
      rw [h.tail,List.drop_drop,hfl]
      congr 2
      omega
     refine Prt.of_seal (L:=sureL L) hawk.1 (by rw [b4];exact (h.sec _).1) ?_ (by rw [List.length_take];omega) (by have:=h.big;omega) h.hd.ep
     show (sD (flZ D L).2).at (secOf L (480 * (L.sure / 480 + i)))=_
     rw [hn]
     unfold flP partB
     rw [e6,flA_part,show 480 * (L.sure / 480 + i) / 480=L.sure / 480 + i by omega]
   ·have o1:=(hd.old j).2
    have o2:=hd.mono j k hjk
    show (if j < L.sure / 480 then ep j else L.hd.ep)≤(if k < L.sure / 480 then ep k else L.hd.ep)
    split
    ·split
     ·exact o2
     ·exact o1
    ·rw [if_neg (by omega)]
     exact Nat.le_refl _
   ·show L.hd.old≤(if j < L.sure / 480 then ep j else L.hd.ep)∧(if j < L.sure / 480 then ep j else L.hd.ep)≤L.hd.ep
    have o1:=hd.old j
    split
    ·exact o1
    ·exact ⟨Nat.le_trans o1.1 o1.2,Nat.le_refl _⟩
   ·show (if H.length / 480 < L.sure / 480 then ep (H.length / 480) else L.hd.ep)=L.hd.ep
    rw [if_neg (by omega)]
   ·have k3:=hnst j (by omega) k2
    have e7:thr (sureL L) (fun j=>if j < L.sure / 480 then ep j else L.hd.ep) j=L.hd.ep:=by
     unfold thr
     rw [if_pos (show (sureL L).hd.fi / 480 < j by show L.hd.fi / 480 < j;omega)]
     show (if j - 1 < L.sure / 480 then ep (j - 1) else L.hd.ep)=L.hd.ep
     rw [if_neg (by omega)]
    rw [e7]
    exact k3
end
section
variable {D D2:Dk} {L L2:Lg} {H S:List UInt8} {ep:Nat→Nat} {n:Nat}
theorem recs_le:∀(rs:List (List UInt8)),rs.length≤(recsB rs).length
 | []=>Nat.zero_le _
 | p::rs=>by
  have:=recs_le rs
  rw [recsB_cons,List.length_append,frm_len,List.length_cons]
  omega
theorem seal1_len (h:Hd):(sealB 1 h.ns []).length=512:=sealB_length (by simp [Hd.ns]) (by simp)
theorem put_sync (h:Awk D) (hb:Bd D) (hp:D.pen= []) (ho:D.ops < 400000) (s:Nat) (b:List UInt8) (hs:s < D.dur.length) (hl:b.length=512):
  wE D (s:Int) b=0∧sE (wD D (s:Int) b)=0∧Awk (sD (wD D (s:Int) b))∧(sD (wD D (s:Int) b)).pen= []∧Bd (sD (wD D (s:Int) b))∧(sD (wD D (s:Int) b)).ops≤D.ops + 2∧(sD (wD D (s:Int) b)).dur.length=D.dur.length∧∀j,j < D.dur.length→(sD (wD D (s:Int) b)).at j=if j=s then b else D.at j:=by
 have hw:=awk_write h s b hs hl
 obtain ⟨b1,b2,b3,b4⟩:=wD_bd hb (by rw [hp];decide) (by omega) (s:Int) b
 obtain ⟨c1,c2,c3,c4⟩:=sD_bd b1 (by omega)
 refine ⟨hw.1,awk_sync hw.2.1,rg_awk_sD hw.2.1,rg_sD_pen hw.2.1,c1,by omega,by rw [c4,b4],fun j hj=> ?_⟩
 rw [rg_at_sD hw.2.1 j (by rw [b4];exact hj),rg_at_wD h s b hs hl j]
theorem Rg.mark (h:Rg D L H) (ho:D.ops < 400000) (rs more:List (List UInt8)) (pl:Nat) (hr:∀p∈rs,RecOk p) (hH:H.drop L.hd.fi=recsB (rs ++ more)) (hpl:pl=L.hd.fi + (recsB rs).length) (hs:pl≤L.sure):
  mkE D L 0 pl=0∧Rg (mkD D L 0 pl) (mkL D L 0 pl) H∧(mkL D L 0 pl).hd= { L.hd with st:=pl,fi:=pl,ck:=0,old:=mkO L pl } ∧(mkL D L 0 pl).sure=L.sure∧(mkL D L 0 pl).at_=L.at_∧(mkD D L 0 pl).ops≤D.ops + 2∧(mkD D L 0 pl).dur.length=D.dur.length:=by
 obtain ⟨ep,hd⟩:=h.dur
 have hst:=h.st
 have hsu:=h.sure
 have hff:ffZ D L pl=(0,pl):=by
  have k:=ffR_is h.on hd h.sure h.tail h.end_ rs more L.hd.fi (pl + 1 - L.hd.fi) hr (Nat.le_refl _) hH (by have:=recs_le rs;omega)
  rw [← hpl] at k
  exact k
 have hbad:¬(pl < L.hd.st∨L.sure < pl∨L.sure < 0):=by omega
 have hlt:L.at_ < D.dur.length:=by have:=h.at_;omega
 obtain ⟨w1,w2,w3,w4,w5,w6,w7,w8⟩:=put_sync h.awk h.bd h.pen ho L.at_ (mkB L 0 pl pl) hlt (seal1_len _)
 have hE:mkE D L 0 pl=0:=by
  unfold mkE
  rw [if_neg hbad,hff,if_neg (fun e=>e rfl),w1,if_neg (fun e=>e rfl)]
  exact w2
 have e1:mkD D L 0 pl=sD (wD D (L.at_:Int) (mkB L 0 pl pl)):=by
  unfold mkD
  rw [if_neg hbad,hff,if_neg (fun e=>e rfl),w1,if_neg (fun e=>e rfl)]
 have e2:mkL D L 0 pl= { L with hd:=mkH L 0 pl pl }:=by
  unfold mkL
  rw [hE,if_pos rfl,hff]
 rw [e1,e2]
 have hbg:=h.big
 have hoo:mkO L pl < 18446744073709551616∧mkO L pl≤L.hd.ep:=by
  have h1:=h.hd.ep
  have h2:=(hd.old 0)
  unfold mkO
  split <;> omega
 refine ⟨hE,⟨w3,w4,w5,⟨h.hd.ep,hoo.1,by show pl < _;omega,by show pl < _;omega,by show 0 < _;decide,h.hd.cn⟩,h.cn,by rw [w7];exact h.at_,h.tail,h.sure, ?_,rfl,Nat.zero_le _,h.held, ?_,h.big,h.epo, ?_, ?_⟩,rfl,rfl,rfl,w6,w7⟩
 ·show 480≤pl∧pl≤pl∧pl≤L.sure
  omega
 ·show H.length≤(pl / 480 + L.hd.cn) * 480
  exact Nat.le_trans h.ring (Nat.mul_le_mul_right _ (Nat.add_le_add_right (Nat.div_le_div_right (by omega)) _))
 ·have k:=w8 L.at_ hlt
  rw [if_pos rfl] at k
  exact k
 ·have htk:(H.take L.sure).length=L.sure:=by rw [List.length_take];omega
  have hsec:∀a,secOf L a < D.dur.length:=fun a=>(h.sec a).1
  have hsm:∀a,(sD (wD D (L.at_:Int) (mkB L 0 pl pl))).at (secOf L a)=D.at (secOf L a):=fun a=>by rw [w8 _ (h.sec a).1,if_neg (h.sec a).2]
  by_cases hpe:pl=L.sure
  ·have hmo:mkO L pl=L.hd.ep:=by unfold mkO;rw [if_pos hpe]
   refine ⟨fun _=>L.hd.ep, ?_⟩
   show Dur _ ({ L with hd:=mkH L 0 pl pl }) (H.take L.sure) _
   refine ⟨fun j k1 k2=> ?_,fun _ _ _=>Nat.le_refl _,fun _=>⟨?_,Nat.le_refl _⟩,fun _=>rfl,fun j k1 k2=> ?_,fun j k1 k2=> ?_⟩
   ·have k1:pl / 480≤j:=k1
    rw [htk] at k2
    obtain rfl:j=L.sure / 480:=by omega
    have hp:=hd.part (L.sure / 480) (Nat.div_le_div_right hst.2.2) (by rw [htk];omega)
    have hl:=hd.last (by rw [htk];omega)
    rw [htk] at hl
    rw [hl] at hp
    exact hp.same h.on w3.1 w7 rfl rfl (hsec _) (hsm _)
   ·show mkO L pl≤L.hd.ep
    exact hoo.2
   ·obtain ⟨q1,q2⟩:=there_same (L2:= { L with hd:=mkH L 0 pl pl }) h.on w3.1 w7 rfl rfl (hsec (480 * j)) (hsm _)
    rw [q1] at k2
    rw [q2]
    exact hd.stale j k1 k2
   ·obtain ⟨q1,q2⟩:=there_same (L2:= { L with hd:=mkH L 0 pl pl }) h.on w3.1 w7 rfl rfl (hsec (480 * j)) (hsm _)
    rw [q1] at k2
    rw [q2]
    have ht:thr { L with hd:=mkH L 0 pl pl } (fun _=>L.hd.ep) j=L.hd.ep:=by
     unfold thr
     show (if pl / 480 < j then L.hd.ep else mkO L pl)=L.hd.ep
     rw [hmo]
     split <;> rfl
    rw [ht]
    rcases hd.stale j (by omega) k2 with q3 | ⟨-,-,q3⟩
    ·exact .inr q3
    ·exact .inl q3
  ·have hmo:mkO L pl=L.hd.old:=by unfold mkO;rw [if_neg hpe]
   refine ⟨ep, ?_⟩
   show Dur _ ({ L with hd:=mkH L 0 pl pl }) (H.take L.sure) _
   refine ⟨fun j k1 k2=> ?_,hd.mono,fun j=>⟨?_,(hd.old j).2⟩,hd.last,fun j k1 k2=> ?_,fun j k1 k2=> ?_⟩
   ·have k1:pl / 480≤j:=k1
    have h1:L.hd.fi / 480≤pl / 480:=Nat.div_le_div_right (by omega)
    exact (hd.part j (Nat.le_trans h1 k1) k2).same h.on w3.1 w7 rfl rfl (hsec _) (hsm _)
   ·show mkO L pl≤_
    rw [hmo]
    exact (hd.old j).1
   ·obtain ⟨q1,q2⟩:=there_same (L2:= { L with hd:=mkH L 0 pl pl }) h.on w3.1 w7 rfl rfl (hsec (480 * j)) (hsm _)
    rw [q1] at k2
    rw [q2]
    exact hd.stale j k1 k2
   ·obtain ⟨q1,q2⟩:=there_same (L2:= { L with hd:=mkH L 0 pl pl }) h.on w3.1 w7 rfl rfl (hsec (480 * j)) (hsm _)
    rw [q1] at k2
    rw [q2]
    have ht:thr { L with hd:=mkH L 0 pl pl } ep j=thr L ep j:=by
     rw [htk] at k1
     unfold thr
     show (if pl / 480 < j then ep (j - 1) else mkO L pl)=_
     rw [if_pos (by omega),if_pos (by omega)]
    rw [ht]
    exact hd.stop j k1 k2
/-! ### Open -/
theorem hdOf_seal (h:Hd) (ok:h.Ok):hdOf (sealB 1 h.ns [])=h:=by
 have hl:h.ns.length≤6:=by simp [Hd.ns]
 have ht:([]:List UInt8).length≤480:=by decide
 have k:=fun i n hi hn=>numAt_seal (kind:=1) (tail:= []) hl ht i n hi hn (.inl rfl)
 unfold hdOf
 rw [k 0 h.ep rfl ⟨by omega,by have:=ok.ep;omega⟩,k 1 h.old rfl ⟨by omega,by have:=ok.old;omega⟩,k 2 h.st rfl ⟨by omega,by have:=ok.st;omega⟩,k 3 h.fi rfl ⟨by omega,by have:=ok.fi;omega⟩,k 4 h.ck rfl ⟨by omega,by have:=ok.ck;omega⟩,k 5 h.cn rfl ⟨by omega,by have:=ok.cn;omega⟩]
 rfl
theorem Rg.rhE (h:Rg D L H):rhE D (L.at_:Int)=0∧rhH D (L.at_:Int)=L.hd:=by
 have hlt:L.at_ < D.dur.length:=by have:=h.at_;omega
 have e:Proofs.YthmdmgnhfhpcaaaGreatDoor.rhE D (L.at_:Int)=0:=by
  unfold Proofs.YthmdmgnhfhpcaaaGreatDoor.rhE
  rw [gE_on h.on hlt,if_neg (by decide),gB_on h.on hlt,h.head,unsE_seal (by simp [Hd.ns]) (by simp)]
  rfl
 refine ⟨e, ?_⟩
 unfold rhH
 rw [e,if_pos rfl,gB_on h.on hlt,h.head]
 exact hdOf_seal _ h.hd
structure FDur (D:Dk) (L:Lg) (S:List UInt8) (ep:Nat→Nat):Prop where
 full:∀j,L.hd.fi / 480≤j→480 * j + 480≤S.length→Prt D L j (ep j) ((S.drop (480 * j)).take 480)
 mono:∀j k,j≤k→ep j≤ep k
 old:∀j,L.hd.old≤ep j∧ep j≤L.hd.ep
 found:∃J,thP D L (L.hd.cn + 1) (480 * (L.hd.fi / 480)) (L.hd.old:Int)=S.drop (480 * (L.hd.fi / 480)) ++ J∧whSz J=0
 stale:∀j,S.length < 480 * j + 480→ptThere D L (480 * j)=true→(ptAt D (secOf L (480 * j))).ep≤(L.hd.ep:Int)∨((ptAt D (secOf L (480 * j))).ep=((L.hd.ep + 1:Nat):Int)∧j=S.length / 480)
structure Fal (D:Dk) (L:Lg) (S:List UInt8):Prop where
 awk:Awk D
 pen:D.pen= []
 bd:Bd D
 hd:L.hd.Ok
 cn:4≤L.hd.cn∧L.hd.cn≤4096
 at_:L.at_ + 1 + L.hd.cn≤D.dur.length
 tail:L.tail=S.drop (flo L.sure)
 sure:L.sure=S.length
 st:480≤L.hd.st∧L.hd.fi=L.hd.st∧L.hd.fi≤S.length
 ck:L.hd.ck≤S.length
 held:L.held=0
 ring:S.length≤(L.hd.st / 480 + L.hd.cn) * 480
 big:S.length < 1000000000000
 epo:L.hd.ep < 1000000000000
 head:D.at L.at_=sealB 1 L.hd.ns []
 recs:∃rs,(∀p∈rs,RecOk p)∧S.drop L.hd.fi=recsB rs
 dur:∃ep,FDur D L S ep
theorem Fal.on (h:Fal D L S):D.off=false:=h.awk.1
theorem Fal.sec (h:Fal D L S) (a:Nat):secOf L a < D.dur.length∧secOf L a≠L.at_:=by
 have h1:=Nat.mod_lt (a / 480) (show 0 < L.hd.cn by have:=h.cn;omega)
 have h2:=h.at_
 unfold secOf
 omega
theorem Fal.rhE (h:Fal D L S):rhE D (L.at_:Int)=0∧rhH D (L.at_:Int)=L.hd:=by
 have hlt:L.at_ < D.dur.length:=by have:=h.at_;omega
 have e:Proofs.YthmdmgnhfhpcaaaGreatDoor.rhE D (L.at_:Int)=0:=by
  unfold Proofs.YthmdmgnhfhpcaaaGreatDoor.rhE
  rw [gE_on h.on hlt,if_neg (by decide),gB_on h.on hlt,h.head,unsE_seal (by simp [Hd.ns]) (by simp)]
  rfl
 refine ⟨e, ?_⟩
 unfold rhH
 rw [e,if_pos rfl,gB_on h.on hlt,h.head]
 exact hdOf_seal _ h.hd
theorem thP_log (h1:L2.at_=L.at_) (h2:L2.hd.cn=L.hd.cn) (hon:D.off=false) (hon2:D2.off=false) (hl:D2.dur.length=D.dur.length) (hs:∀a,secOf L a < D.dur.length) (hd:∀a,D2.at (secOf L a)=D.at (secOf L a)):∀(f a:Nat) (e:Int),thP D2 L2 f a e=thP D L f a e
 | 0,_,_=>rfl
 | f + 1,a,e=>by
  obtain ⟨e1,e2⟩:=there_same hon hon2 hl h1 h2 (hs a) (hd a)
  unfold thP
  rw [e1,e2,thP_log h1 h2 hon hon2 hl hs hd f]
theorem Fal.find (h:Fal D L S):fnE D (op0 D (L.at_:Int))=0∧opF D (L.at_:Int)=L:=by
 obtain ⟨e1,e2⟩:=h.rhE
 obtain ⟨ep,hd⟩:=h.dur
 obtain ⟨rs,hr,hH⟩:=h.recs
 obtain ⟨J,hJ,hJ0⟩:=hd.found
 have hst:=h.st
 have hri:=h.ring
 have hs:=h.sure
 have ho:op0 D (L.at_:Int)=⟨L.at_,L.hd,0, [],0⟩:=by unfold op0;rw [e2,Int.toNat_natCast]
 have hb:fnBase (op0 D (L.at_:Int))=480 * (L.hd.fi / 480):=by rw [ho];unfold fnBase flo;show L.hd.fi - L.hd.fi % 480=_;omega
 have hall:fnAll D (op0 D (L.at_:Int))=S.drop (480 * (L.hd.fi / 480)) ++ J:=by
  unfold fnAll
  rw [hb,ho,← hJ]
  exact thP_log (L:=L) (L2:=⟨L.at_,L.hd,0, [],0⟩) rfl rfl h.on h.on rfl (fun a=>(h.sec a).1) (fun _=>rfl) _ _ _
 have hfi:(op0 D (L.at_:Int)).hd.fi=L.hd.fi:=by rw [ho]
 have hsp:S.drop (480 * (L.hd.fi / 480))=(S.drop (480 * (L.hd.fi / 480))).take (L.hd.fi - 480 * (L.hd.fi / 480)) ++ recsB rs:=by
  rw [← hH]
  have h1:S.drop L.hd.fi=(S.drop (480 * (L.hd.fi / 480))).drop (L.hd.fi - 480 * (L.hd.fi / 480)):=by rw [List.drop_drop];congr 1;omega
  rw [h1,List.take_append_drop]
 have hpl:((S.drop (480 * (L.hd.fi / 480))).take (L.hd.fi - 480 * (L.hd.fi / 480))).length=L.hd.fi - 480 * (L.hd.fi / 480):=by rw [List.length_take,List.length_drop];omega
 have hrl:(recsB rs).length=S.length - L.hd.fi:=by rw [← hH,List.length_drop]
 have hdl:(S.drop (480 * (L.hd.fi / 480))).length=S.length - 480 * (L.hd.fi / 480):=List.length_drop
 have hend:fnEnd D (op0 D (L.at_:Int))=S.length - 480 * (L.hd.fi / 480):=by
  unfold fnEnd
  rw [hall,hb,hfi]
  have k:=runN_recsJ J hJ0 rs ((S.drop (480 * (L.hd.fi / 480))).take (L.hd.fi - 480 * (L.hd.fi / 480))) (S.drop (480 * (L.hd.fi / 480)) ++ J).length hr (by
   have:=recs_le rs
   rw [List.length_append,List.length_drop]
   omega)
  rw [← List.append_assoc,← hsp,hpl,hrl] at k
  rw [k]
  omega
 have hsure:fnSure D (op0 D (L.at_:Int))=S.length:=by unfold fnSure;rw [hend,hb];omega
 have htail:fnTail D (op0 D (L.at_:Int))=L.tail:=by
  unfold fnTail
  rw [hall,hend,hsure,hb,h.tail,hs,List.take_append_of_le_length (by omega),List.take_of_length_le (by omega),List.drop_drop]
  congr 1
  unfold flo
  omega
 refine ⟨?_, ?_⟩
 ·unfold fnE
  rw [if_neg (by rw [h.on];decide),if_neg (by rw [hfi,hb,hall,List.length_append];omega),if_neg (by rw [hsure,ho];show ¬S.length < L.hd.ck;have:=h.ck;omega)]
 ·unfold opF fnL
  rw [hsure,htail,ho,← hs]
  have e:(⟨L.at_,L.hd,L.sure,L.tail,L.held⟩:Lg)=L:=rfl
  rw [h.held] at e
  exact e
theorem fallen_still (h:Awk D) (hp:D.pen= []):D.fallen []=D:=by
 unfold Dk.fallen
 rw [hp]
 obtain ⟨h1,h2⟩:=h
 cases D
 simp only at h1 h2 hp
 subst h1 h2 hp
 rfl
theorem nextL_hd (he:L.hd.ep < 1000000000000):(nextL L).hd= { L.hd with ep:=L.hd.ep + 1 }:=by
 unfold nextL
 rw [Nat.mod_eq_of_lt (by omega)]
theorem Fal.room (h:Fal D L S):roomOf (nextL L)=(((L.hd.st / 480 + L.hd.cn) * 480:Nat):Int) - (S.length:Int):=by
 have h1:=h.sure
 have h2:=flo_le L.sure
 unfold roomOf endOf
 show (((L.hd.st / 480 + L.hd.cn) * 480:Nat):Int) - ((flo L.sure + L.tail.length:Nat):Int) - ((nextL L).held:Int)=_
 rw [h.tail,List.length_drop,show (nextL L).held=0 from h.held]
 omega
theorem Fal.op_bg (h:Fal D L S):opE D (L.at_:Int) (L.hd.cn:Int)=bgE D L∧opD D (L.at_:Int) (L.hd.cn:Int)=bgD D L∧opL D (L.at_:Int)=nextL L:=by
 obtain ⟨e1,e2⟩:=h.rhE
 obtain ⟨f1,f2⟩:=h.find
 have hcn:=h.cn
 have hat_:=h.at_
 have hfit:fitsE D.dur.length (L.at_:Int) (L.hd.cn:Int)=0:=by unfold fitsE;rw [if_neg (by omega)]
 refine ⟨?_, ?_,by unfold opL;rw [f2]⟩
 ·unfold opE
  rw [hfit,e1,e2,f1,f2,if_neg (fun e=>e rfl),if_neg (fun e=>e rfl),if_neg (fun e=>e rfl),if_neg (fun e=>e rfl)]
 ·unfold opD
  rw [hfit,e1,e2,f1,f2,if_neg (fun e=>e rfl),if_neg (fun e=>e rfl),if_neg (fun e=>e rfl),if_neg (fun e=>e rfl)]
theorem Fal.open_ (h:Fal D L S) (ho:D.ops < 400000) (he:L.hd.ep + 1 < 1000000000000):
  opE D (L.at_:Int) (L.hd.cn:Int)=0∧Rg (opD D (L.at_:Int) (L.hd.cn:Int)) (opL D (L.at_:Int)) S∧opL D (L.at_:Int)=nextL L∧(opD D (L.at_:Int) (L.hd.cn:Int)).ops≤D.ops + 3∧(opD D (L.at_:Int) (L.hd.cn:Int)).dur.length=D.dur.length:=by
 obtain ⟨hEE,hDD,hL⟩:=h.op_bg
 have hcn:=h.cn
 have hat_:=h.at_
 have hs:=h.sure
 rw [hEE,hDD,hL]
 have hlt:L.at_ < D.dur.length:=by omega
 have hhd:=nextL_hd h.epo
 have hep:=h.epo
 obtain ⟨ep,hd⟩:=h.dur
 have hokn:(nextL L).hd.Ok:=by
  rw [hhd]
  exact ⟨by show L.hd.ep + 1 < _;omega,h.hd.old,h.hd.st,h.hd.fi,h.hd.ck,h.hd.cn⟩
 have hcnn:(nextL L).hd.cn=L.hd.cn:=by rw [hhd]
 have hfin:(nextL L).hd.fi=L.hd.fi:=by rw [hhd]
 have holn:(nextL L).hd.old=L.hd.old:=by rw [hhd]
 have hroom:=h.room
 have hri:=h.ring
 have hst:=h.st
 have hbg:=h.big
 -- the head
 have hwh:=awk_write h.awk L.at_ (bgB L) hlt (seal1_len _)
 obtain ⟨b1,b2,b3,b4⟩:=wD_bd h.bd (by rw [h.pen];decide) (by omega) (L.at_:Int) (bgB L)
 have hrd1:∀j,(wD D (L.at_:Int) (bgB L)).at j=if j=L.at_ then bgB L else D.at j:=fun j=>rg_at_wD h.awk L.at_ (bgB L) hlt (seal1_len _) j
 have hts:(nextL L).sure=S.length:=hs
 by_cases hrm:roomOf (nextL L) > 0
 ·-- the tail is written again
  have hroom2:S.length < (L.hd.st / 480 + L.hd.cn) * 480:=by rw [hroom] at hrm;omega
  have hfs:flo L.sure=480 * (S.length / 480):=by rw [hs];unfold flo;omega
  obtain ⟨s,hse⟩:∃s,secOf L (480 * (S.length / 480))=s:=⟨_,rfl⟩
  have hbs:bgS L=(s:Int):=by unfold bgS;rw [sec_log (L:=L) (L2:=nextL L) rfl hcnn,hfs,hse]
  have hslt:s < D.dur.length:=by rw [← hse];exact (h.sec _).1
  have hsne:s≠L.at_:=by rw [← hse];exact (h.sec _).2
  have htl:L.tail=S.drop (480 * (S.length / 480)):=by rw [h.tail,hfs]
  have htll:L.tail.length≤480:=by rw [htl,List.length_drop];omega
  have hpl:(bgP L).length=512:=by unfold bgP partB;exact sealB_length (by simp [ptNs]) htll
  have hw2:=awk_write hwh.2.1 s (bgP L) (by rw [b4];exact hslt) hpl
  obtain ⟨c1,c2,c3,c4⟩:=wD_bd b1 (by rw [h.pen] at b2;simp at b2;omega) (by omega) (s:Int) (bgP L)
  obtain ⟨d1,d2,d3,d4⟩:=sD_bd c1 (by omega)
  have hE:bgE D L=0:=by
   unfold bgE
   rw [hwh.1,if_neg (by decide),if_pos hrm,hbs,hw2.1,if_neg (by decide)]
   exact awk_sync hw2.2.1
  have hDe:bgD D L=sD (wD (wD D (L.at_:Int) (bgB L)) (s:Int) (bgP L)):=by
   unfold bgD
   rw [hwh.1,if_neg (by decide),if_pos hrm,hbs,hw2.1,if_neg (by decide)]
  rw [hDe]
  have hawk:=rg_awk_sD hw2.2.1
  have hlen:(sD (wD (wD D (L.at_:Int) (bgB L)) (s:Int) (bgP L))).dur.length=D.dur.length:=by rw [d4,c4,b4]
  have hrd:∀j,j < D.dur.length→(sD (wD (wD D (L.at_:Int) (bgB L)) (s:Int) (bgP L))).at j=if j=s then bgP L else if j=L.at_ then bgB L else D.at j:=fun j hj=>by
   rw [rg_at_sD hw2.2.1 j (by rw [c4,b4];exact hj),rg_at_wD hwh.2.1 s (bgP L) (by rw [b4];exact hslt) hpl j,hrd1 j]
  have hbp:bgP L=sealB 2 (ptNs (S.length / 480) (L.hd.ep + 1) L.tail.length) L.tail:=by
   unfold bgP partB
   rw [hhd,hfs,show 480 * (S.length / 480) / 480=S.length / 480 by omega]
  have hpn:=rg_sD_pen hw2.2.1
  generalize sD (wD (wD D (L.at_:Int) (bgB L)) (s:Int) (bgP L))=DZ at *
  refine ⟨hE,⟨hawk,hpn,d1,hokn,by rw [hcnn];exact hcn,by rw [hcnn,hlen];exact hat_,h.tail,by rw [hts];exact Nat.le_refl _,by rw [hhd,hts];show 480≤L.hd.st∧L.hd.st≤L.hd.fi∧L.hd.fi≤S.length;omega,by rw [hhd];exact hst.2.1,by rw [hhd,hts];exact h.ck,h.held,by rw [hhd];exact h.ring,h.big,by rw [hhd];exact he, ?_, ?_⟩,rfl,by omega,hlen⟩
  ·show DZ.at L.at_=_
   rw [hrd _ hlt,if_neg hsne.symm,if_pos rfl]
   rfl
  ·refine ⟨fun j=>if j < S.length / 480 then ep j else L.hd.ep + 1, ?_⟩
   rw [hts,List.take_length]
   have hsame:∀j,secOf L (480 * j)≠s→DZ.at (secOf L (480 * j))=D.at (secOf L (480 * j)):=fun j hj=>by rw [hrd _ (h.sec _).1,if_neg hj,if_neg (h.sec _).2]
   have hnew:∀j,secOf L (480 * j)=s→ptThere DZ (nextL L) (480 * j)=true→j=S.length / 480∧(ptAt DZ (secOf (nextL L) (480 * j))).ep=((L.hd.ep + 1:Nat):Int)∧(ptAt DZ (secOf (nextL L) (480 * j))).by_=L.tail:=fun j hjs k2=>by
    have hbj0:=hrd s hslt
    rw [if_pos rfl] at hbj0
    obtain ⟨p1,p2⟩:=ptAt_seal (D:=DZ) hawk.1 (i:=s) (by rw [hlen];exact hslt) (S.length / 480) (L.hd.ep + 1) L.tail (hbj0.trans hbp) htll (by omega) (by omega)
    unfold ptThere at k2
    rw [sec_log (L:=L) (L2:=nextL L) rfl hcnn,hjs] at k2 ⊢
    rw [p1,p2] at k2
    simp only [Bool.true_and,decide_eq_true_eq] at k2
    exact ⟨by omega,by rw [p2],by rw [p2]⟩
   refine ⟨fun j k1 k2=> ?_,fun j k hjk=> ?_,fun j=> ?_,fun k=> ?_,fun j k1 k2=> ?_,fun j k1 k2=> ?_⟩
   ·rw [hfin] at k1
    by_cases hj:j < S.length / 480
    ·rw [if_pos hj]
     exact (hd.full j k1 (by omega)).same h.on hawk.1 hlen rfl hcnn (h.sec _).1 (hsame j (by rw [← hse];exact lsec_far (by omega) (by omega) (by omega)))
    ·rw [if_neg hj]
     obtain rfl:j=S.length / 480:=by omega
     have htk:(S.drop (480 * (S.length / 480))).take 480=L.tail:=by rw [htl];exact List.take_of_length_le (by rw [List.length_drop];omega)
     rw [htk]
     refine Prt.of_seal (L:=nextL L) hawk.1 (by rw [sec_log (L:=L) (L2:=nextL L) rfl hcnn,hlen];exact (h.sec _).1) ?_ htll (by omega) (by omega)
     rw [sec_log (L:=L) (L2:=nextL L) rfl hcnn,hse,hrd _ hslt,if_pos rfl,hbp]
   ·have o1:=(hd.old j).2
    have o2:=hd.mono j k hjk
    show (if j < S.length / 480 then ep j else L.hd.ep + 1)≤(if k < S.length / 480 then ep k else L.hd.ep + 1)
    split
    ·split
     ·exact o2
     ·omega
    ·rw [if_neg (by omega)]
     exact Nat.le_refl _
   ·rw [hhd]
    show L.hd.old≤(if j < S.length / 480 then ep j else L.hd.ep + 1)∧(if j < S.length / 480 then ep j else L.hd.ep + 1)≤L.hd.ep + 1
    have o1:=hd.old j
    split
    ·exact ⟨o1.1,by omega⟩
    ·exact ⟨by omega,Nat.le_refl _⟩
   ·rw [hhd]
    show (if S.length / 480 < S.length / 480 then ep (S.length / 480) else L.hd.ep + 1)=L.hd.ep + 1
    rw [if_neg (by omega)]
   ·rw [show ((nextL L).hd.ep:Int)=((L.hd.ep + 1:Nat):Int) by rw [hhd]]
    by_cases hjs:secOf L (480 * j)=s
    ·obtain ⟨q1,q2,q3⟩:=hnew j hjs k2
     exact .inr ⟨q2,by omega,by rw [q3,htl,List.drop_of_length_le (by omega)]⟩
    ·obtain ⟨q1,q2⟩:=there_same (L:=L) (L2:=nextL L) h.on hawk.1 hlen rfl hcnn (h.sec _).1 (hsame j hjs)
     rw [q1] at k2
     rw [q2]
     rcases hd.stale j (by omega) k2 with q3 | ⟨-,q4⟩
     ·left;omega
     ·exact absurd (by rw [q4];exact hse) hjs
   ·obtain rfl:j=S.length / 480:=by omega
    obtain ⟨-,-,q3⟩:=hnew _ hse k2
    exact .inl (by rw [q3,htl,List.drop_of_length_le (by omega)])
 ·-- the log is full
  have hfull:S.length=(L.hd.st / 480 + L.hd.cn) * 480:=by rw [hroom] at hrm;omega
  obtain ⟨d1,d2,d3,d4⟩:=sD_bd b1 (by omega)
  have hE:bgE D L=0:=by
   unfold bgE
   rw [hwh.1,if_neg (by decide),if_neg hrm]
   exact awk_sync hwh.2.1
  have hDe:bgD D L=sD (wD D (L.at_:Int) (bgB L)):=by
   unfold bgD
   rw [hwh.1,if_neg (by decide),if_neg hrm]
  rw [hDe]
  have hawk:=rg_awk_sD hwh.2.1
  have hlen:(sD (wD D (L.at_:Int) (bgB L))).dur.length=D.dur.length:=by rw [d4,b4]
  have hrd:∀j,j < D.dur.length→(sD (wD D (L.at_:Int) (bgB L))).at j=if j=L.at_ then bgB L else D.at j:=fun j hj=>by
   rw [rg_at_sD hwh.2.1 j (by rw [b4];exact hj),hrd1 j]
  have hsame:∀a,(sD (wD D (L.at_:Int) (bgB L))).at (secOf L a)=D.at (secOf L a):=fun a=>by rw [hrd _ (h.sec a).1,if_neg (h.sec a).2]
  have hpn:=rg_sD_pen hwh.2.1
  generalize sD (wD D (L.at_:Int) (bgB L))=DZ at *
  have hno:∀j,480 * j=S.length→ptThere D L (480 * j)=false:=fun j hj=>by
   have h1:=there_ring (D:=D) (L:=L) (by omega) (480 * (L.hd.fi / 480)) (hd.full (L.hd.fi / 480) (Nat.le_refl _) (by omega)).there
   have h2:480 * (L.hd.fi / 480) + 480 * L.hd.cn=480 * j:=by rw [hst.2.1];omega
   rw [h2] at h1
   exact h1
  refine ⟨hE,⟨hawk,hpn,d1,hokn,by rw [hcnn];exact hcn,by rw [hcnn,hlen];exact hat_,h.tail,by rw [hts];exact Nat.le_refl _,by rw [hhd,hts];show 480≤L.hd.st∧L.hd.st≤L.hd.fi∧L.hd.fi≤S.length;omega,by rw [hhd];exact hst.2.1,by rw [hhd,hts];exact h.ck,h.held,by rw [hhd];exact h.ring,h.big,by rw [hhd];exact he, ?_,ep, ?_⟩,rfl,by omega,hlen⟩
  ·show DZ.at L.at_=_
   rw [hrd _ hlt,if_pos rfl]
   rfl
  ·rw [hts,List.take_length]
   refine ⟨fun j k1 k2=> ?_,hd.mono,fun j=> ?_,fun k=>absurd (by omega) k,fun j k1 k2=> ?_,fun j k1 k2=> ?_⟩
   ·rw [hfin] at k1
    exact (hd.full j k1 (by omega)).same h.on hawk.1 hlen rfl hcnn (h.sec _).1 (hsame _)
   ·rw [hhd]
    have:=hd.old j
    exact ⟨this.1,Nat.le_succ_of_le this.2⟩
   ·rw [show ((nextL L).hd.ep:Int)=((L.hd.ep + 1:Nat):Int) by rw [hhd]]
    obtain ⟨q1,q2⟩:=there_same (L:=L) (L2:=nextL L) h.on hawk.1 hlen rfl hcnn (h.sec _).1 (hsame (480 * j))
    rw [q1] at k2
    rw [q2]
    rcases hd.stale j (by omega) k2 with q3 | ⟨-,q4⟩
    ·left;omega
    ·rw [hno j (by omega)] at k2
     cases k2
   ·obtain ⟨q1,q2⟩:=there_same (L:=L) (L2:=nextL L) h.on hawk.1 hlen rfl hcnn (h.sec _).1 (hsame (480 * j))
    rw [q1,hno j k1] at k2
    cases k2
end
end Go.Proofs.YthmdmgnhfhpcaaaGreatDoor
