/-
  What the card wants, part 5: PlO, PlK, PlN, LgHa, PlQ, PlA, StA, StB, LgRz, RcP, RcF, RcK.
-/
import Derived.IntWalk
import Derived.Deep.Cut
import Derived.Deep.CutRange
import Derived.Great.BuildSlice
import Derived.Laws.OwnMore
import Derived.Maps.AppendAt
import Derived.BigQuiet
import Derived.Deep.QuietTactic
import Derived.Test.YthmdmgnhfhpcaaaGreatDoorPkCardSvE0
import Derived.Test.YthmdmgnhfhpcaaaGreatDoorPkCardSvE3
import Derived.Test.YthmdmgnhfhpcaaaGreatDoorPkCardSvE4
set_option linter.unusedVariables false
set_option linter.unusedSimpArgs false
set_option maxRecDepth 20000
set_option maxHeartbeats 12800000
namespace Go.Proofs.YthmdmgnhfhpcaaaGreatDoor
open Go.RowKit
theorem rd_keepB {w w':World} {A:Option Addr} {l:List UInt8} (h:Rd w A l) (hk:∀a,A=some a→w'.heap[a.block]? =w.heap[a.block]?):Rd w' A l:=fun hn=>by
 obtain ⟨b,off,rfl,hc⟩:=h hn
 exact ⟨b,off,rfl,fun j u hu=>(World.cell?_of_block (a:=⟨b,off + j,none⟩) (hk ⟨b,off,none⟩ rfl)).trans (hc j u hu)⟩
section
variable {w0 w:World} {Z:Pk} {D:Dk} {L:Lg} {P:Pl}
theorem read_new {B g gd gn c:Nat} {A:Option Addr} (h:DiskAt B w g gd gn A c D) (b:Bd D) (i:Int):
  Calls Tryz.prog 82 #[.pointer (some ⟨g,0,none⟩), .int .i64 i] w (fun e w' =>∃A n c,e= .returned (.tuple #[.slice A n c, .int .i64 (gE D i)])∧n=(gB D i).length∧n≤c∧Rd w' A (gB D i)∧(∀a,A=some a→w.heap.size≤a.block∧a.block < w'.heap.size)∧Ext w w'):=by
 unfold gE gB
 by_cases h1:i < 0∨(D.dur.length:Int)≤i
 ·rw [if_pos h1,if_pos h1]
  refine (read_arg h i h1).mono fun e w' hs=> ?_
  obtain ⟨rfl,rfl⟩:=hs
  exact ⟨none,0,0,rfl,rfl,Nat.le_refl _,Rd.nil _ _,fun a ha=>(by cases ha),Ext.refl _⟩
 ·rw [if_neg h1,if_neg h1]
  obtain ⟨k,rfl⟩:∃k:Nat,i=(k:Int):=⟨i.toNat,by omega⟩
  have hk:k < D.dur.length:=by omega
  by_cases h3:D.off=true
  ·rw [if_pos h3,if_pos h3]
   refine (read_off h h3 (k:Int) (by omega) (by omega)).mono fun e w' hs=> ?_
   obtain ⟨rfl,rfl⟩:=hs
   exact ⟨none,0,0,rfl,rfl,Nat.le_refl _,Rd.nil _ _,fun a ha=>(by cases ha),Ext.refl _⟩
  ·rw [if_neg h3,if_neg h3,Int.toNat_natCast]
   refine (read_any h b.ok (by simpa using h3) (by have:=b.pen;omega) k hk).mono fun e w' hs=> ?_
   obtain ⟨hh,rfl,hr,hge,hx⟩:=hs
   have hl:=at_len b k hk
   exact ⟨some ⟨hh,0,none⟩,512,512,rfl,hl.symm,Nat.le_refl _,Rd.of_rw hr,fun a ha=>by injection ha with ha;subst ha;exact ⟨hge,hr.lt⟩,hx⟩
theorem PlAt.ask (h:PlAt w0 w Z D L P) {i:Nat} {f:Fm} (hi:P.H i=some f) (h5:f.by_.length=504):
  PlAt w0 ((w.setCell ⟨Z.q,8,none⟩ (.int .i64 ((P.asked + 1:Nat):Int))).setCell ⟨Z.fb i,509,none⟩ (.int .i64 ((P.asked + 1:Nat):Int))) Z D L (askP P i f)∧Pfr Z P w ((w.setCell ⟨Z.q,8,none⟩ (.int .i64 ((P.asked + 1:Nat):Int))).setCell ⟨Z.fb i,509,none⟩ (.int .i64 ((P.asked + 1:Nat):Int))):=by
 have h1:=h.field 8 (.int .i64 ((P.asked + 1:Nat):Int)) { P with asked:=P.asked + 1 } rfl rfl rfl rfl rfl
 have hr:=(h1.fr i f hi).set 509 (.int .i64 ((P.asked + 1:Nat):Int))
 rw [fr_used h5] at hr
 refine ⟨h1.frame i (f:=f) (f':= { f with used:=P.asked + 1 }) hi (cell_rest _ _ _) (fun k hk=>Below.heap_setCell _ ⟨Z.fb i,509,none⟩ _ k hk) hr _ rfl, ?_⟩
 exact (Pfr.onCell (P:=P) (Z:=Z) (.inr (.inl rfl))).trans (Pfr.onCell (P:=P) (Z:=Z) (.inr (.inr (.inr (.inr ⟨i,f,hi,rfl⟩))))) (Pk.Later.refl _ _ _)
def PgPost (w0 w:World) (Z:Pk) (P:Pl) (x:Int) (r:Int×St) (e:Ending) (w':World):Prop:=
 ∃Z',e= .returned (.tuple #[if r.1=0 then .pointer (some ⟨Z'.fb x.toNat,0,none⟩) else .pointer none, .int .i64 r.1])∧PlAt w0 w' Z' r.2.D r.2.L r.2.P∧Pfr Z P w w'∧Z'.Later r.2.P Z P w∧(r.1=0→∃f,r.2.P.H x.toNat=some f)
theorem page_any {c:Nat} (h:PlAt w0 w Z D L P) (ft:St.Fit ⟨D,L,P⟩ c) (hc:c≤400000) (hT:Tab w0) (x:Int):
  Calls Tryz.prog 60 #[.pointer (some ⟨Z.q,0,none⟩), .int .i64 x] w (PgPost w0 w Z P x (pageR ⟨D,L,P⟩ x)):=by
 have H:=hide h
 have FT:=hide ft
 have HT:=hide hT
 have HC:=hide hc
 have KH:=hide (phas_any h x)
 have c0:=h.blk.cell (i:=0) rfl
 have c2:=h.blk.cell (i:=2) rfl
 have c5:=h.blk.cell (i:=5) rfl
 have c8:=h.blk.cell (i:=8) rfl
 obtain ⟨rr,HRR⟩:∃rr,Hid (pageR ⟨D,L,P⟩ x=rr):=⟨_,hide rfl⟩
 rw [HRR.out]
 by_cases hx:x < 0∨(P.pages:Int)≤x
 ·have hb:(decide (0≤x) && decide (x < (P.pages:Int)))=false:=by
   rw [Bool.and_eq_false_iff]
   rcases hx with hx | hx
   ·exact .inl (decide_eq_false (by omega))
   ·exact .inr (decide_eq_false (by omega))
  rw [hb] at KH
  have HRES:Hid (rr=(1,⟨D,L,P⟩)):=hide (by rw [← HRR.out];unfold pageR;rw [if_pos hx])
  clear h ft hc hT hx hb
  go_enter Tryz.func60,Tryz.ntmps60
  go_wp2_with (go_at_call 99;(with_reducible refine KH.out.mono ?_);rintro e w2 ⟨rfl,hw2⟩;subst hw2)
  go_ret2
  rw [HRES.out]
  exact ⟨Z,rfl,H.out,Pfr.refl,Pk.Later.refl _ _ _,fun hh=>absurd (show (1:Int)=0 from hh) (by decide)⟩
 ·have hb:(decide (0≤x) && decide (x < (P.pages:Int)))=true:=by
   rw [Bool.and_eq_true]
   exact ⟨decide_eq_true (by omega),decide_eq_true (by omega)⟩
  rw [hb] at KH
  obtain ⟨i,rfl⟩:∃i:Nat,x=(i:Int):=⟨x.toNat,by omega⟩
  have hip:i < P.pages:=by omega
  have HIP:=hide hip
  have HI5:Hid (i < 100000):=hide (by
   have h2:P.at_ + P.pages≤D.dur.length:=ft.pool.at_
   have h3:D.dur.length≤4096:=ft.pool.max
   omega)
  have hlk:(Instr.lookup 85 (.map (some Z.hb)) (.int .i64 (i:Int)) false).run Tryz.prog w= .ok (match P.H i with | some _=> .pointer (some ⟨Z.fb i,0,none⟩) | none=> .pointer none) w:=held_look h HI5.out 0
  obtain ⟨ak,HAK⟩:∃ak,Hid (P.asked=ak):=⟨_,hide rfl⟩
  rw [HAK.out] at c8
  have HAKB:Hid (ak≤400000):=hide (by have h1:P.asked≤c:=ft.asked;have:=HAK.out;omega)
  have HRR2:Hid (rr=(match P.H i with
   | some f=>(0,⟨D,L,askP P i f⟩)
   | none=>
    if gE D ((P.at_:Int) + (i:Int))≠0 then (gE D ((P.at_:Int) + (i:Int)),⟨D,L,P⟩) else
    if (roomR ⟨D,L,P⟩).1≠0 then roomR ⟨D,L,P⟩ else
    (0,{ (roomR ⟨D,L,P⟩).2 with P:=askP (bringP (roomR ⟨D,L,P⟩).2.P i (gB D ((P.at_:Int) + (i:Int)))) i (frameB (gB D ((P.at_:Int) + (i:Int)))) }))):=hide (by rw [← HRR.out];unfold pageR;rw [if_neg hx];rfl)
  clear ft hc hT hx hb hip
  cases hH:P.H i with
  | some f=>
   rw [hH] at hlk
   replace hlk:(Instr.lookup 85 (.map (some Z.hb)) (.int .i64 (i:Int)) false).run Tryz.prog w= .ok (.pointer (some ⟨Z.fb i,0,none⟩)) w:=hlk
   have HRES:Hid (rr=(0,⟨D,L,askP P i f⟩)):=hide (by rw [HRR2.out,hH])
   have h5:=(FT.out.pool.page i f hH).2.by_
   have HASK:=hide (h.ask hH h5)
   have HH:=hide hH
   obtain ⟨b,HB⟩:∃b,Hid (Z.fb i=b):=⟨_,hide rfl⟩
   rw [HB.out,HAK.out] at HASK
   rw [HB.out] at hlk
   have hne:¬Z.q=b:=by rw [← HB.out];exact h.q_fb hH
   have hne2:¬b=Z.q:=fun e=>hne e.symm
   have z8:=h.blk.frozen 8
   have hr:=h.fr i f hH
   rw [HB.out] at hr
   have k509:=hr.cell (fr_get h5).2.2.2.2.2
   have z509:=hr.frozen 509
   obtain ⟨k1,HK1⟩:∃k1:Int,Hid (((ak + 1:Nat):Int)=k1):=⟨_,hide rfl⟩
   rw [HK1.out] at HASK
   have hkw:IntKind.i64.wrap ((ak:Int) + 1)=k1:=by rw [IntKind.wrap_i64];have:=HK1.out;have:=HAKB.out;omega
   clear h h5 hH hr
   go_enter Tryz.func60,Tryz.ntmps60
   go_wp2_with (go_at_call 99;(with_reducible refine KH.out.mono ?_);rintro e w2 ⟨rfl,hw2⟩;subst hw2)

   go_ret2
   rw [HRES.out]
   refine ⟨Z, ?_,HASK.out.1,HASK.out.2,(Pk.Later.refl Z P w).fewer (fun j g hj=> ?_),fun _=>⟨_,upM_same _ _ _⟩⟩
   ·rw [if_pos rfl,Int.toNat_natCast,HB.out];rfl
   ·by_cases e:j=i
    ·subst e;exact ⟨f,HH.out⟩
    ·exact ⟨g,by rw [← hj];exact (upM_other _ _ e).symm⟩
  | none=>
   rw [hH] at hlk
   replace hlk:(Instr.lookup 85 (.map (some Z.hb)) (.int .i64 (i:Int)) false).run Tryz.prog w= .ok (.pointer none) w:=hlk
   have HH:=hide hH
   obtain ⟨s,HS⟩:∃s:Int,Hid ((P.at_:Int) + (i:Int)=s):=⟨_,hide rfl⟩
   obtain ⟨e1,HE1⟩:∃e1,Hid (gE D s=e1):=⟨_,hide rfl⟩
   obtain ⟨sb,HSB⟩:∃sb,Hid (gB D s=sb):=⟨_,hide rfl⟩
   have HRR3:Hid (rr=if e1≠0 then (e1,⟨D,L,P⟩) else if (roomR ⟨D,L,P⟩).1≠0 then roomR ⟨D,L,P⟩ else (0,{ (roomR ⟨D,L,P⟩).2 with P:=askP (bringP (roomR ⟨D,L,P⟩).2.P i sb) i (frameB sb) })):=hide (by rw [HRR2.out,hH];simp only [HS.out,HE1.out,HSB.out])
   have HSBL:Hid (e1=0→sb.length=512):=hide (fun he=>by rw [← HSB.out];exact gB_lenP FT.out.bd s (by rw [HE1.out];exact he))
   obtain ⟨at0,HAT⟩:∃at0,Hid (P.at_=at0):=⟨_,hide rfl⟩
   rw [HAT.out] at c2
   have hsw:IntKind.i64.wrap ((at0:Int) + (i:Int))=s:=by
    have h2:P.at_ + P.pages≤D.dur.length:=FT.out.pool.at_
    have h3:D.dur.length≤4096:=FT.out.pool.max
    have h4:=HIP.out
    have h5:=HS.out
    have h6:=HAT.out
    rw [IntKind.wrap_i64]
    omega
   obtain ⟨g0,HG0⟩:∃g0,Hid (Z.X.g=g0):=⟨_,hide rfl⟩
   rw [HG0.out] at c0
   have KRD:Hid (∀W,Ext w W→Calls Tryz.prog 82 #[.pointer (some ⟨g0,0,none⟩), .int .i64 s] W (fun e w' =>∃A n c,e= .returned (.tuple #[.slice A n c, .int .i64 e1])∧n=sb.length∧n≤c∧Rd w' A sb∧(∀a,A=some a→W.heap.size≤a.block∧a.block < w'.heap.size)∧Ext W w')):=hide (fun W hW=>by
    have k1:=read_new (H.out.ext_ hW).log.disk FT.out.bd s
    rw [HE1.out,HSB.out,HG0.out] at k1
    exact k1)
   clear h hH
   go_enter Tryz.func60,Tryz.ntmps60
   go_upto_region 5 with (go_at_call 99;(with_reducible refine KH.out.mono ?_);rintro e w2 ⟨rfl,hw2⟩;subst hw2)
   go_region_law (go_simp;go_at_call 82;(with_reducible refine (KRD.out _ (Ext.drew _)).mono ?_);rintro e w2 ⟨A2,n2,c2v,rfl,hn2,hc2,hr2,ha2,hx2⟩;have HX2:Hid (Ext w w2):=hide ((Ext.drew _).trans hx2);have HN2:=hide hn2;have HC2:=hide hc2;have HR2:=hide hr2;have HA2:Hid (∀a,A2=some a→w.heap.size≤a.block∧a.block < w2.heap.size):=hide ha2;clear hn2 hc2 hr2 ha2 hx2)
   all_goals
    by_cases he1:e1=0
    ·subst he1
     obtain ⟨rm,HRM⟩:∃rm,Hid (roomR ⟨D,L,P⟩=rm):=⟨_,hide rfl⟩
     have HRR4:Hid (rr=if rm.1≠0 then rm else (0,{ rm.2 with P:=askP (bringP rm.2.P i sb) i (frameB sb) })):=hide (by rw [HRR3.out,if_neg (fun hh=>hh rfl),HRM.out])
     have hl5:=HSBL.out rfl
     have hn5:=HN2.out
     rw [hl5] at hn5
     have HL5:=hide hl5
     have HC5:Hid (512≤c2v):=hide (by have:=HC2.out;omega)
     subst hn5
     have HP2:=hide (H.out.ext_ HX2.out)
     have KMR:=hide (makeRoom_any HP2.out FT.out HC.out HT.out)
     rw [HRM.out] at KMR
     obtain ⟨-,-,-,-,q5,q6,q7,q8,q9⟩:=roomR_fit FT.out HC.out
     rw [HRM.out] at q5 q6 q7 q8 q9
     have HSUB:=hide q5
     have HASK9:Hid (rm.2.P.asked=ak):=hide (by rw [← HAK.out];exact q9)
     have HFIT:=hide (roomR_fit FT.out HC.out).1
     rw [HRM.out] at HFIT
     clear q5 q6 q7 q8 q9 hl5 hlk c0 c2 c5 c8 hsw
     obtain ⟨re,rS⟩:=rm
     by_cases hre:re=0
     ·subst hre
      have HRES:Hid (rr=(0,{ rS with P:=askP (bringP rS.P i sb) i (frameB sb) })):=hide (by rw [HRR4.out];exact if_neg (fun hh=>hh rfl))
      go_upto_region 11 with (go_at_call 100;(with_reducible refine KMR.out.mono ?_);rintro e w3 ⟨Z3,rfl,hl3,hf3,hn3,hb3⟩;have HL3:=hide hl3;have HPF3:=hide hf3;have HPN3:=hide hn3;have HB3:=hide hb3;clear hl3 hf3 hn3 hb3)
      have HR3:Hid (Rd w3 A2 sb):=hide (rd_keepB HR2.out fun a ha=>HPF3.out.other a.block (HA2.out a ha).2 fun hh=>by
       have h1:=H.out.has_lt hh
       have h2:=(HA2.out a ha).1
       omega)
      have KFO:=hide (frameOf_any A2 c2v sb HL5.out HC5.out HR3.out)
      go_upto_region 12 with (go_at_call 101;(with_reducible refine KFO.out.mono ?_);rintro e w4 ⟨b,rfl,hr4,hb4,hx4⟩;have HR4:=hide hr4;have HB4:=hide hb4;have HX4:=hide hx4;clear hr4 hb4 hx4)
      have HL4:=hide (HL3.out.ext_ HX4.out)
      have m5:=HL4.out.blk.cell (i:=5) rfl
      rw [HPN3.out.q,HPN3.out.hb] at m5
      obtain ⟨w5,hrun,hm5,ht5⟩:=HL4.out.held.put (t:=85) (e:=97) Tryz.underlying85 i HI5.out (by have h1:rS.P.n≤rS.P.frames:=HFIT.out.pool.cnt;have h2:rS.P.frames≤64:=HFIT.out.pool.frames.2;omega) (val:= .pointer (some ⟨b,0,none⟩)) (d:= .lit (.int .i64 (b:Int))) (ps:= []) rfl
      have hno:rS.P.H i=none:=by
       cases hq:rS.P.H i with
       | none=>rfl
       | some g=>have h1:=HSUB.out i g hq;have h1:P.H i=some g:=h1;rw [HH.out] at h1;cases h1
      have hno2:(heldM Z3 rS.P i).isSome=false:=by unfold heldM;rw [hno];rfl
      rw [hno2] at hm5
      have hbr:=HL4.out.bring i hno (frameB sb) b HR4.out (Nat.le_trans HL3.out.log.ext.size HB4.out) (fun j g hj e=>by
       have h1:=(HL3.out.fr j g hj).lt
       have h2:=HB4.out
       omega) ht5 hm5
      have HBR:=hide hbr
      obtain ⟨Z5,HZ5⟩:∃Z5,Hid (({ Z3 with fb:=fun j=>if j=i then b else Z3.fb j }:Pk)=Z5):=⟨_,hide rfl⟩
      have HP5:Hid (bringP rS.P i sb= { rS.P with H:=upM rS.P.H i (some (frameB sb)),n:=rS.P.n + 1 }):=hide rfl
      rw [HZ5.out,← HP5.out] at HBR
      have HZQ:Hid (Z5.q=Z.q):=hide (by rw [← HZ5.out];exact HPN3.out.q)
      have HZB:Hid (Z5.fb i=b):=hide (by rw [← HZ5.out];exact if_pos rfl)
      have HPF5:Hid (Pfr Z P w w5):=hide (((Pfr.ext HX2.out).trans HPF3.out (Pk.Later.refl _ _ _)).trans ((Pfr.ext HX4.out).trans (Pfr.onMap ht5 (P:=rS.P) (Z:=Z3) (.inr (.inr (.inl rfl)))) (Pk.Later.refl _ _ _)) (HPN3.out.up HX2.out.size))
      have HHB:Hid ((bringP rS.P i sb).H i=some (frameB sb)):=hide (upM_same _ _ _)
      have HPN5:Hid (Z5.Later (bringP rS.P i sb) Z P w):=hide (by
       rw [← HZ5.out]
       have hl:=HPN3.out.up HX2.out.size
       refine ⟨hl.q,hl.hb,hl.ob,hl.X,fun k hk=> ?_⟩
       rcases hk with hk | hk | hk | hk | ⟨j,g,hj,hk⟩
       ·exact hl.has k (.inl hk)
       ·exact hl.has k (.inr (.inl hk))
       ·exact hl.has k (.inr (.inr (.inl hk)))
       ·exact hl.has k (.inr (.inr (.inr (.inl hk))))
       ·by_cases e:j=i
        ·subst e
         have hk:k=b:=by rw [hk];exact if_pos rfl
         refine .inr ?_
         have h1:=HX2.out.size
         have h2:=HPF3.out.size
         have h3:=HB4.out
         omega
        ·have hk:k=Z3.fb j:=by rw [hk];exact if_neg e
         exact hl.has k (.inr (.inr (.inr (.inr ⟨j,g,by rw [← hj];exact (upM_other _ _ e).symm,hk⟩)))))
      have hfb:=frameB_ok HL5.out
      have HASK:=hide (HBR.out.ask HHB.out hfb.1)
      have hak:(bringP rS.P i sb).asked=ak:=HASK9.out
      rw [HZQ.out,HZB.out,hak] at HASK
      have hne:¬Z.q=b:=by rw [← HZQ.out,← HZB.out];exact HBR.out.q_fb HHB.out
      have hne2:¬b=Z.q:=fun e=>hne e.symm
      have m8:=HBR.out.blk.cell (i:=8) rfl
      have z8:=HBR.out.blk.frozen 8
      rw [HZQ.out] at m8 z8
      rw [hak] at m8
      have hr:=HBR.out.fr i _ HHB.out
      rw [HZB.out] at hr
      have k509:=hr.cell (fr_get hfb.1).2.2.2.2.2
      have z509:=hr.frozen 509
      obtain ⟨k1,HK1⟩:∃k1:Int,Hid (((ak + 1:Nat):Int)=k1):=⟨_,hide rfl⟩
      rw [HK1.out] at HASK
      have hkw:IntKind.i64.wrap ((ak:Int) + 1)=k1:=by rw [IntKind.wrap_i64];have:=HK1.out;have:=HAKB.out;omega
      rw [HPN3.out.hb] at hrun
      clear hm5 ht5 hno hno2 hbr hfb hak hr
      go_wp2
      go_ret2
      rw [HRES.out]
      refine ⟨Z5, ?_,HASK.out.1,HPF5.out.trans HASK.out.2 HPN5.out,HPN5.out.fewer (fun j g hj=> ?_),fun _=>⟨_,upM_same _ _ _⟩⟩
      ·rw [if_pos rfl,Int.toNat_natCast,HZB.out];rfl
      ·by_cases e:j=i
       ·subst e;exact ⟨_,HHB.out⟩
       ·exact ⟨g,by rw [← hj];exact (upM_other _ _ e).symm⟩
     ·have hee:(re !=0)=true:=by simpa using hre
      have HRES:Hid (rr=(re,rS)):=hide (by rw [HRR4.out];exact if_pos hre)
      have HRE:=hide hre
      clear hre
      go_wp2_with (go_at_call 100;(with_reducible refine KMR.out.mono ?_);rintro e w3 ⟨Z3,rfl,hl3,hf3,hn3,hb3⟩;have HL3:=hide hl3;have HPF3:=hide hf3;have HPN3:=hide hn3;clear hl3 hf3 hn3 hb3)
      go_ret2
      rw [HRES.out]
      exact ⟨Z3,by rw [if_neg HRE.out];rfl,HL3.out,(Pfr.ext HX2.out).trans HPF3.out (Pk.Later.refl _ _ _),HPN3.out.up HX2.out.size,fun hh=>absurd hh HRE.out⟩
    ·have hee:(e1 !=0)=true:=by simpa using he1
     have HRES:Hid (rr=(e1,⟨D,L,P⟩)):=hide (by rw [HRR3.out,if_pos he1])
     have HE:=hide he1
     clear he1 hlk c0 c2 c5 c8 hsw
     go_wp2
     go_ret2
     rw [HRES.out]
     exact ⟨Z,by rw [if_neg HE.out];rfl,H.out.ext_ HX2.out,Pfr.ext HX2.out,Pk.Later.refl _ _ _,fun hh=>absurd hh HE.out⟩
end
section
variable {w0 w:World} {Z:Pk} {D:Dk} {L:Lg} {P:Pl}
theorem sclone_any (A:Option Addr) (l:List UInt8) (n c:Nat) (w:World) (hr:Rd w A l) (hn:l.length=n) (hl:n≤140737488351232) (hA:A≠none):Calls Tryz.prog 61 #[.slice A n c] w (Ret w (fun w' v=>Own w' w.heap.size v l)):=by
 rcases A with _ | a
 ·exact absurd rfl hA
 ·have HR:=hide hr
  have HL:=hide hl
  have hq:=fun (W:World)=>run_eql_nil (P:=Tryz.prog) W 22 5 (some a) n c Tryz.underlying22
  clear hr hl hA
  go_enter Tryz.func61,Tryz.ntmps61
  go_wp2_with (at_builtin;refine wpList_cat rfl (.tmp 5) (.tmp 6) rfl w.heap.size _ [] l _ n c rfl rfl hn.symm (Own.empty w) (HR.out.ext (Ext.alloc _ _)) (by simp) (by rw [List.length_nil,hn];have:=HL.out;omega) ?_;intro v2 w2 hown hb;rw [List.nil_append] at hown;have O2:=hide hown;have X2:Hid (Ext w w2):=hide (Below.trans (Ext.alloc w _) hb);clear hown hb)
  go_ret
  exact Ret.mk X2.out O2.out
def HadP (w0 w:World) (Z:Pk) (P:Pl) (i:Nat) (S:St) (e:Ending) (w':World):Prop:=
 ∃Z' f b,e= .returned (.tuple #[.pointer (some ⟨b,0,none⟩), .int .i64 0])∧Z'.fb i=b∧S.P.H i=some f∧PlAt w0 w' Z' S.D S.L S.P∧Pfr Z P w w'∧Z'.Later S.P Z P w
def NotP (w0 w:World) (Z:Pk) (P:Pl) (er:Int) (S:St) (e:Ending) (w':World):Prop:=
 ∃Z',e= .returned (.tuple #[.pointer none, .int .i64 er])∧PlAt w0 w' Z' S.D S.L S.P∧Pfr Z P w w'∧Z'.Later S.P Z P w
theorem page_had {c:Nat} (h:PlAt w0 w Z D L P) (ft:St.Fit ⟨D,L,P⟩ c) (hc:c≤400000) (hT:Tab w0) (x:Int) (S:St) (hp:pageR ⟨D,L,P⟩ x=(0,S)):
  Calls Tryz.prog 60 #[.pointer (some ⟨Z.q,0,none⟩), .int .i64 x] w (HadP w0 w Z P x.toNat S):=by
 have k:=page_any h ft hc hT x
 rw [hp] at k
 refine k.mono fun e w' hh=> ?_
 obtain ⟨Z',he,h1,h2,h3,h4⟩:=hh
 obtain ⟨f,hf⟩:=h4 rfl
 exact ⟨Z',f,_,he,rfl,hf,h1,h2,h3⟩
theorem page_not {c:Nat} (h:PlAt w0 w Z D L P) (ft:St.Fit ⟨D,L,P⟩ c) (hc:c≤400000) (hT:Tab w0) (x:Int) (er:Int) (S:St) (hp:pageR ⟨D,L,P⟩ x=(er,S)) (he0:er≠0):
  Calls Tryz.prog 60 #[.pointer (some ⟨Z.q,0,none⟩), .int .i64 x] w (NotP w0 w Z P er S):=by
 have k:=page_any h ft hc hT x
 rw [hp] at k
 refine k.mono fun e w' hh=> ?_
 obtain ⟨Z',he,h1,h2,h3,h4⟩:=hh
 exact ⟨Z',by rw [he];show Ending.returned (.tuple #[if er=0 then _ else _,_])=_;rw [if_neg he0],h1,h2,h3⟩
def setS (S:St) (i:Nat) (f:Fm):St:= { S with P:= { S.P with H:=upM S.P.H i (some f) } }
theorem setS_later {S:St} {Z:Pk} {i:Nat} {f g:Fm} (hg:S.P.H i=some g):Z.Later (setS S i f).P Z S.P w:=⟨rfl,rfl,rfl,Bk.Later.refl _ _,fun k hk=> .inl (by
 rcases hk with hk | hk | hk | hk | ⟨j,g',hj,hk⟩
 ·exact .inl hk
 ·exact .inr (.inl hk)
 ·exact .inr (.inr (.inl hk))
 ·exact .inr (.inr (.inr (.inl hk)))
 ·by_cases e:j=i
  ·subst e;exact .inr (.inr (.inr (.inr ⟨j,g,hg,hk⟩)))
  ·exact .inr (.inr (.inr (.inr ⟨j,g',by rw [← hj];exact (upM_other _ _ e).symm,hk⟩))))⟩
theorem setS_at {w':World} {S:St} {i:Nat} {f g:Fm} (h:PlAt w0 w Z S.D S.L S.P) (hg:S.P.H i=some g) (h1:w'.os=w.os∧w'.tape=w.tape∧w'.output=w.output∧w'.heap.size=w.heap.size) (o:∀k,k≠Z.fb i→w'.heap[k]? =w.heap[k]?) (hr:Rw w' (Z.fb i) 103 (frC f)):
  PlAt w0 w' Z (setS S i f).D (setS S i f).L (setS S i f).P∧Pfr Z S.P w w':=
 ⟨h.frame i hg h1 o hr _ rfl,Pfr.one h1 o (.inr (.inr (.inr (.inr ⟨i,g,hg,rfl⟩))))⟩
def WrP (w0 w:World) (Z:Pk) (P:Pl) (i:Nat) (S:St) (off:Nat) (m:List UInt8) (lsn:Nat) (e:Ending) (w':World):Prop:=∃f,S.P.H i=some f∧PPost w0 w Z P (.int .i64 0) S.D S.L (setS S i (chF f off m lsn)).P e w'
def RdP (w0 w:World) (Z:Pk) (P:Pl) (i:Nat) (S:St) (e:Ending) (w':World):Prop:=
 ∃f Z' A cc,S.P.H i=some f∧e= .returned (.tuple #[.slice A 504 cc, .int .u64 (f.last:Int), .int .i64 0])∧Rd w' A f.by_∧(∀a,A=some a→w.heap.size≤a.block∧a.block < w'.heap.size∧¬Z'.has S.P a.block)∧PlAt w0 w' Z' S.D S.L S.P∧Pfr Z P w w'∧Z'.Later S.P Z P w
theorem pread_ok {c:Nat} (h:PlAt w0 w Z D L P) (ft:St.Fit ⟨D,L,P⟩ c) (hc:c≤400000) (hT:Tab w0) (x:Int) (S:St) (hp:pageR ⟨D,L,P⟩ x=(0,S)):
  Calls Tryz.prog 35 #[.pointer (some ⟨Z.q,0,none⟩), .int .i64 x] w (RdP w0 w Z P x.toNat S):=by
 have KP:=hide (page_had h ft hc hT x S hp)
 have FT:Hid (S.Fit (c + L.hd.cn + 4)):=hide (by have h1:=(pageR_fit ft hc x).1;rw [hp] at h1;exact h1)
 obtain ⟨i,HI⟩:∃i,Hid (x.toNat=i):=⟨_,hide rfl⟩
 rw [HI.out] at KP ⊢
 clear h ft hc hT hp
 go_enter Tryz.func35,Tryz.ntmps35
 go_upto_region 6 with (go_at_call 60;(with_reducible refine KP.out.mono ?_);rintro e w2 ⟨Z2,f,b,rfl,hb2,hf2,hl2,hpf2,hn2⟩;have HB2:=hide hb2;have HF2:=hide hf2;have HL2:=hide hl2;have HPF2:=hide hpf2;have HPN2:=hide hn2;clear hb2 hf2 hl2 hpf2 hn2)
 have h5:=(FT.out.pool.page i f HF2.out).2
 have H5:=hide h5
 have hr:=HL2.out.fr i f HF2.out
 rw [HB2.out] at hr
 have HR:=hide hr
 have k504:=hr.cell (fr_get h5.by_).1
 obtain ⟨la,HLA⟩:∃la,Hid (f.last=la):=⟨_,hide rfl⟩
 rw [HLA.out] at k504
 have KCL:Hid (∀W,Ext w2 W→Calls Tryz.prog 61 #[.slice (some ⟨b,0,none⟩) 504 504] W (fun e w' =>∃A cc,e= .returned (.slice A 504 cc)∧Rd w' A f.by_∧(∀a,A=some a→W.heap.size≤a.block∧a.block < w'.heap.size)∧Ext W w')):=hide (fun W hW=>by
  refine (sclone_any (some ⟨b,0,none⟩) f.by_ 504 504 W (fr_bytes H5.out.by_ (HR.out.ext hW)) H5.out.by_ (by decide) (by simp)).mono fun e w' hh=> ?_
  obtain ⟨v,he,hx,ho⟩:=hh
  obtain ⟨A,cc,hv,-,hrd⟩:=ho.bytes
  rw [H5.out.by_] at hv
  refine ⟨A,cc,by rw [he,hv],hrd,fun a ha=> ?_,hx⟩
  have h1:=own_block ho a.block (by rw [hv,ha];rfl)
  exact ⟨h1.1,h1.2.1⟩)
 have HRUN:Hid (∀W,(Instr.sliceAt 101 (.pointer (some ⟨b,0,none⟩)) none none none).run Tryz.prog W= .ok (.slice (some ⟨b,0,none⟩) 504 504) W):=hide (fun W=>run_all504 b 0 W)
 clear hr h5
 go_region_law (go_simp;go_at_call 61;(with_reducible refine (KCL.out _ (Ext.drew _)).mono ?_);rintro e w3 ⟨A3,c3,rfl,hr3,ha3,hx3⟩;have HX3:Hid (Ext w2 w3):=hide ((Ext.drew _).trans hx3);have HR3:=hide hr3;have HA3:Hid (∀a,A3=some a→w2.heap.size≤a.block∧a.block < w3.heap.size):=hide ha3;have k504b:=(HR.out.ext HX3.out).cell (fr_get H5.out.by_).1;rw [HLA.out] at k504b;clear hr3 ha3 hx3)
 all_goals
  go_wp2
  go_ret3
  refine ⟨f,Z2,A3,c3,HF2.out,by rw [HLA.out];rfl,HR3.out,fun a ha=> ?_,HL2.out.ext_ HX3.out,HPF2.out.trans (Pfr.ext HX3.out) HPN2.out,HPN2.out⟩
  obtain ⟨h1,h2⟩:=HA3.out a ha
  exact ⟨Nat.le_trans HPF2.out.size h1,h2,fun hh=>by have h3:=HL2.out.has_lt hh;omega⟩
theorem pread_not {c:Nat} (h:PlAt w0 w Z D L P) (ft:St.Fit ⟨D,L,P⟩ c) (hc:c≤400000) (hT:Tab w0) (x er:Int) (S:St) (hp:pageR ⟨D,L,P⟩ x=(er,S)) (he0:er≠0):
  Calls Tryz.prog 35 #[.pointer (some ⟨Z.q,0,none⟩), .int .i64 x] w (PPost w0 w Z P (.tuple #[.slice none 0 0, .int .u64 0, .int .i64 er]) S.D S.L S.P):=by
 have KP:=hide (page_not h ft hc hT x er S hp he0)
 have hee:(er !=0)=true:=by simpa using he0
 clear h ft hc hT hp he0
 go_enter Tryz.func35,Tryz.ntmps35
 go_wp2_with (go_at_call 60;(with_reducible refine KP.out.mono ?_);rintro e w2 ⟨Z2,rfl,hl2,hpf2,hn2⟩;have HL2:=hide hl2;have HPF2:=hide hpf2;have HPN2:=hide hn2;clear hl2 hpf2 hn2)
 go_ret3
 exact ⟨Z2,rfl,HL2.out,HPF2.out,HPN2.out⟩
end
def P0 (a n f:Nat):Pl:=⟨a,n,f,fun _=>none,0,fun _=>none,0,0,0⟩
theorem builtP (g q hb ob:Nat) (a n f:Int):Tryz.prog.built 88 [(0, .pointer (some ⟨g,0,none⟩)),(1, .pointer (some ⟨q,0,none⟩)),(2, .int .i64 a),(3, .int .i64 n),(4, .int .i64 f),(5, .map (some hb)),(6, .map (some ob))]=
  some #[.pointer (some ⟨g,0,none⟩), .pointer (some ⟨q,0,none⟩), .int .i64 a, .int .i64 n, .int .i64 f, .map (some hb), .map (some ob), .int .u64 0, .int .i64 0]:=by kernel_rfl
theorem P0_ok {a n f m:Nat} (h1:a + n≤m) (h2:m≤4096) (h3:1≤n) (h4:1≤f∧f≤64):(P0 a n f).Ok m:=
 ⟨h1,h2,h3,h4,fun i g h=>(by cases h),fun i j g g' h=>(by cases h),Nat.zero_le _,fun i s h=>(by cases h),by show 0 < _;decide⟩
section
variable {w0 w:World} {X:Bk} {D:Dk} {L:Lg}
def NwP (w0 w:World) (X:Bk) (D:Dk) (L:Lg) (P:Pl) (e:Ending) (w':World):Prop:=∃Z,e= .returned (.tuple #[.pointer (some ⟨Z.q,0,none⟩), .int .i64 0])∧Z.X=X∧PlAt w0 w' Z D L P∧Ext w w'
theorem pnew_any (h:LgAt w0 w X D L) (a n f:Nat) (h1:a + n≤D.dur.length) (h2:D.dur.length≤4096) (h3:1≤n) (h4:1≤f∧f≤64):
  Calls Tryz.prog 30 #[.pointer (some ⟨X.g,0,none⟩), .pointer (some ⟨X.q,0,none⟩), .int .i64 (a:Int), .int .i64 (n:Int), .int .i64 (f:Int)] w (NwP w0 w X D L (P0 a n f)):=by
 have H:=hide h
 have KL:=hide (len_any h.disk)
 obtain ⟨dl,HDL⟩:∃dl,Hid (D.dur.length=dl):=⟨_,hide rfl⟩
 rw [HDL.out] at KL h1 h2
 obtain ⟨ai,HAI⟩:∃ai:Int,Hid ((a:Int)=ai):=⟨_,hide rfl⟩
 obtain ⟨ni,HNI⟩:∃ni:Int,Hid ((n:Int)=ni):=⟨_,hide rfl⟩
 obtain ⟨fi,HFI⟩:∃fi:Int,Hid ((f:Int)=fi):=⟨_,hide rfl⟩
 obtain ⟨di,HDI⟩:∃di:Int,Hid ((dl:Int)=di):=⟨_,hide rfl⟩
 have e1:=HAI.out
 have e2:=HNI.out
 have e3:=HFI.out
 have e4:=HDI.out
 obtain ⟨xi,HXI⟩:∃xi:Int,Hid (di - ni=xi):=⟨_,hide rfl⟩
 have e5:=HXI.out
 have hw1:IntKind.i64.wrap (di - ni)=xi:=by rw [IntKind.wrap_i64];omega
 have hc1:¬ai < 0:=by omega
 have hc2:¬ni < 1:=by omega
 have hc3:¬xi < ai:=by omega
 have hc4:¬fi < 1:=by omega
 have hc5:¬64 < fi:=by omega
 rw [HDI.out] at KL
 rw [HAI.out,HNI.out,HFI.out]
 obtain ⟨g,HG⟩:∃g,Hid (X.g=g):=⟨_,hide rfl⟩
 obtain ⟨q,HQ⟩:∃q,Hid (X.q=q):=⟨_,hide rfl⟩
 rw [HG.out] at KL
 rw [HG.out,HQ.out]
 clear h h1 h2 h3 h4 e1 e2 e3 e4 e5
 go_enter Tryz.func30,Tryz.ntmps30
 go_upto_region 7 with (go_at_call 27;(with_reducible refine KL.out.mono ?_);rintro e w2 ⟨rfl,hw2⟩;subst hw2)
 have hmm:= @run_makeMap Tryz.prog
 clear hw1 hc1 hc2 hc3 hc4 hc5
 go_wp2_with ((with_reducible show wpList _ _ _ (⟨some 48, .build _ _,_,_,_,_⟩::_) _ _);refine wpList_gives (gives_build rfl _ [(0, .pointer (some ⟨g,0,none⟩)),(1, .pointer (some ⟨q,0,none⟩)),(2, .int .i64 ai),(3, .int .i64 ni),(4, .int .i64 fi),(5, .map (some w.heap.size)),(6, .map (some (w.heap.size + 1)))] rfl (builtP g q w.heap.size (w.heap.size + 1) ai ni fi) ⟨rfl,rfl⟩) rfl ?_)
 go_ret2
 obtain ⟨wz,HWZ⟩:∃wz,Hid (((w.alloc (.map #[] 0)).alloc (.map #[] 0)).alloc (.cells #[.pointer (some ⟨g,0,none⟩), .pointer (some ⟨q,0,none⟩), .int .i64 ai, .int .i64 ni, .int .i64 fi, .map (some w.heap.size), .map (some (w.heap.size + 1)), .int .u64 0, .int .i64 0] 88)=wz):=⟨_,hide rfl⟩
 have hs1:(w.alloc (.map #[] 0)).heap.size=w.heap.size + 1:=by simp
 have hs2:((w.alloc (.map #[] 0)).alloc (.map #[] 0)).heap.size=w.heap.size + 1 + 1:=by simp
 have hx1:Ext (w.alloc (.map #[] 0)) wz:=by rw [← HWZ.out];exact (Ext.alloc _ _).trans (Ext.alloc _ _)
 have hx2:Ext ((w.alloc (.map #[] 0)).alloc (.map #[] 0)) wz:=by rw [← HWZ.out];exact Ext.alloc _ _
 have hx0:Ext w wz:=(Ext.alloc _ _).trans hx1
 have hb:Rw wz (w.heap.size + 1 + 1) 88 [.pointer (some ⟨g,0,none⟩), .pointer (some ⟨q,0,none⟩), .int .i64 ai, .int .i64 ni, .int .i64 fi, .map (some w.heap.size), .map (some (w.heap.size + 1)), .int .u64 0, .int .i64 0]:=by
  rw [← HWZ.out,← hs2]
  exact Rw.new _ _ _
 have m1:MapI wz ptrR w.heap.size (fun _=>none) 0:=(MapI.made (R:=ptrR) w).keep (Below.block hx1 _ (by simp))
 have m2:MapI wz u64R (w.heap.size + 1) (fun _=>none) 0:=by
  have h:=(MapI.made (R:=u64R) (w.alloc (.map #[] 0)))
  rw [hs1] at h
  exact h.keep (Below.block hx2 _ (by simp))
 have hw0:=H.out.ext.size
 rw [HWZ.out]
 refine ⟨⟨X,w.heap.size + 1 + 1,w.heap.size,w.heap.size + 1,fun _=>0⟩,rfl,rfl,⟨H.out.ext_ hx0, ?_,m1,m2,fun i f hf=>(by cases hf),fun i j f g hf=>(by cases hf),⟨by show w0.heap.size≤w.heap.size + 1 + 1;omega,hw0,by show w0.heap.size≤w.heap.size + 1;omega,fun i f hf=>(by cases hf)⟩,by show w.heap.size≠w.heap.size + 1;omega⟩,hx0⟩
 rw [← HG.out,← HQ.out,← HAI.out,← HNI.out,← HFI.out] at hb
 exact hb
end
theorem flo480:flo 480=480:=by decide
section
variable {c H n:Nat} {T:List UInt8} {w0 w:World} {X:Bk} {D:Dk} {L:Lg}
def mkW (n:Nat) (W:World):World:=W.alloc (.cells (madeCells #[.int .u8 0] n) 5)
theorem mkW_ext (n:Nat) (W:World):Ext W (mkW n W):=Ext.alloc W _
theorem mkW_rd (n:Nat) (W:World):Rd (mkW n W) (some ⟨W.heap.size,0,none⟩) (List.replicate n 0):=(Blk.made W n).rd
theorem mkW_run (n:Nat) (hn:n≤1200) (W:World):(Instr.makeSlice 22 (.int .i64 (n:Int)) (.int .i64 (n:Int))).run Tryz.prog W= .ok (.slice (some ⟨W.heap.size,0,none⟩) n n) (mkW n W):=run_make_bytes n (by omega) W
def Awk (D:Dk):Prop:=D.off=false∧D.arm=0
theorem awk_write (h:Awk D) (i:Nat) (p:List UInt8) (hi:i < D.dur.length) (hp:p.length=512):wE D (i:Int) p=0∧Awk (wD D (i:Int) p)∧(wD D (i:Int) p).dur.length=D.dur.length:=by
 obtain ⟨h1,h2⟩:=h
 unfold wE wD
 have ha:¬((i:Int) < 0∨(D.dur.length:Int)≤(i:Int)):=by omega
 have hb:¬p.length≠512:=by omega
 have hc:¬D.off=true:=by rw [h1];decide
 simp only [if_neg ha,if_neg hb,if_neg hc]
 refine ⟨?_,⟨?_, ?_⟩,rfl⟩
 ·show (if D.arm=1 then (8:Int) else 0)=0
  rw [h2]
  rfl
 ·show (D.off || decide (D.arm=1))=false
  rw [h1,h2]
  rfl
 ·show D.arm - 1=0
  rw [h2]
theorem awk_sync (h:Awk D):sE D=0:=by
 obtain ⟨h1,h2⟩:=h
 unfold sE
 rw [if_neg (by rw [h1];decide),if_neg (by omega)]
theorem awk_flW (L:Lg) (hc:L.at_ + 1 + L.hd.cn≤n) (h0:0 < L.hd.cn):∀(f k:Nat) (D:Dk),Awk D→D.dur.length=n→(flW L f k D).1=0∧Awk (flW L f k D).2∧(flW L f k D).2.dur.length=n
 | 0,_,D,h,hd=>⟨rfl,h,hd⟩
 | f + 1,k,D,h,hd=>by
  unfold flW
  split
  ·exact ⟨rfl,h,hd⟩
  ·have hlt:secOf L (flA L k) < D.dur.length:=by
    have:=Nat.mod_lt (flA L k / 480) h0
    unfold secOf
    omega
   have hw:=awk_write h (secOf L (flA L k)) (flP L k) hlt (by
    unfold flP partB
    exact sealB_length (by simp [ptNs]) (by rw [List.length_take];omega))
   have e1:wE D (flS L k) (flP L k)=0:=hw.1
   rw [e1,if_neg (by decide)]
   exact awk_flW L hc h0 f (k + 1) _ hw.2.1 (by rw [← hd];exact hw.2.2)
end
section
variable {D:Dk} {L:Lg} {n:Nat}
theorem at_put (D:Dk) (hk:∀x∈D.pen,True) (i:Nat) (p:List UInt8) (j:Nat) (D':Dk) (h1:D'.dur=D.dur) (h2:D'.pen=D.pen ++ [(i,p)]):D'.at j=if j=i then p else D.at j:=by
 have hl:lastP (D.pen ++ [(i,p)]) j=if j=i then D.pen.length + 1 else lastP D.pen j:=by
  rw [lastP_snoc]
  by_cases e:j=i
  ·rw [if_pos e,if_pos e.symm]
  ·rw [if_neg e,if_neg (fun h=>e h.symm)]
 unfold Dk.at
 rw [h1,h2,hl]
 by_cases e:j=i
 ·rw [if_pos e,if_pos e,if_neg (by omega)]
  simp
 ·rw [if_neg e,if_neg e]
  rcases lastP_at D.pen.length D.pen j rfl with h | ⟨s,h3,h4,h5⟩
  ·rw [if_pos h,if_pos h]
  ·rw [if_neg (by omega),if_neg (by omega)]
   simp only [List.getD_eq_getElem?_getD]
   rw [List.getElem?_append_left (by omega)]
theorem at_wD (h:Awk D) (i:Nat) (p:List UInt8) (hi:i < D.dur.length) (hp:p.length=512) (j:Nat):(wD D (i:Int) p).at j=if j=i then p else D.at j:=by
 obtain ⟨h1,h2⟩:=h
 refine at_put D (fun _ _=>trivial) i p j _ ?_ ?_
 ·unfold wD
  rw [if_neg (by omega),if_neg (by omega),if_neg (by rw [h1];decide)]
  rfl
 ·unfold wD
  rw [if_neg (by omega),if_neg (by omega),if_neg (by rw [h1];decide),Int.toNat_natCast]
  rfl
theorem durK_all (dur:List (List UInt8)) (pen:List (Nat×List UInt8)) (j:Nat) (hj:j < dur.length):∀k,k≤pen.length→(durK (fun _=>true) dur pen k).getD j []=if lastP (pen.take k) j=0 then dur.getD j [] else (pen.getD (lastP (pen.take k) j - 1) (0, [])).2
 | 0,_=>by rw [durK_zero,List.take_zero,lastP_nil,if_pos rfl]
 | k + 1,hk=>by
  have ih:=durK_all dur pen j hj k (by omega)
  have hx:pen[k]? =some pen[k]:=List.getElem?_eq_getElem (by omega)
  rw [durK_succ _ _ _ _ _ hx,if_pos rfl,List.take_add_one,hx,Option.toList_some,lastP_snoc,List.length_take,Nat.min_eq_left (by omega)]
  by_cases e:pen[k].1=j
  ·rw [if_pos e,if_neg (by omega),Nat.add_sub_cancel,e]
   rw [List.getD_eq_getElem?_getD,List.getElem?_set_self (by rw [durK_len];exact hj),List.getD_eq_getElem?_getD,hx]
   rfl
  ·rw [if_neg e,← ih,List.getD_eq_getElem?_getD,List.getElem?_set_ne e,← List.getD_eq_getElem?_getD]
theorem at_sD (h:Awk D) (j:Nat) (hj:j < D.dur.length):(sD D).at j=D.at j:=by
 obtain ⟨h1,h2⟩:=h
 unfold sD
 rw [if_neg (by rw [h1];decide),if_neg (by omega)]
 show (if lastP [] j=0 then (durK (fun _=>true) D.dur D.pen D.pen.length).getD j [] else _)=_
 rw [lastP_nil,if_pos rfl,durK_all D.dur D.pen j hj _ (Nat.le_refl _),List.take_length]
 rfl
theorem awk_sD (h:Awk D):Awk (sD D):=by
 obtain ⟨h1,h2⟩:=h
 unfold sD
 rw [if_neg (by rw [h1];decide),if_neg (by omega)]
 refine ⟨?_, ?_⟩
 ·show (D.off || decide (D.arm=1))=false
  rw [h1,h2];rfl
 ·show D.arm - 1=0
  omega
theorem flW_at (L:Lg) (hc:L.at_ + 1 + L.hd.cn≤n) (h0:0 < L.hd.cn) (j:Nat) (hj:∀a,secOf L a≠j):∀(f k:Nat) (D:Dk),Awk D→D.dur.length=n→(flW L f k D).2.at j=D.at j
 | 0,_,D,_,_=>rfl
 | f + 1,k,D,h,hd=>by
  unfold flW
  split
  ·rfl
  ·have hlt:secOf L (flA L k) < D.dur.length:=by
    have:=Nat.mod_lt (flA L k / 480) h0
    unfold secOf
    omega
   have hpl:(flP L k).length=512:=by
    unfold flP partB
    exact sealB_length (by simp [ptNs]) (by rw [List.length_take];omega)
   have hw:=awk_write h (secOf L (flA L k)) (flP L k) hlt hpl
   have e1:wE D (flS L k) (flP L k)=0:=hw.1
   rw [e1,if_neg (by decide)]
   have h2:=flW_at L hc h0 j hj f (k + 1) (wD D (flS L k) (flP L k)) hw.2.1 (by rw [← hd];exact hw.2.2)
   rw [h2]
   have h3:=at_wD h (secOf L (flA L k)) (flP L k) hlt hpl j
   rw [if_neg (fun e=>hj _ e.symm)] at h3
   exact h3
theorem endOf_sure (L:Lg):endOf (sureL L)=endOf L:=by
 unfold endOf sureL
 show flo (flo L.sure + L.tail.length) + (L.tail.drop (flo L.tail.length)).length=_
 rw [List.length_drop]
 unfold flo
 omega
theorem fl_good (h:Awk D) (hc:L.at_ + 1 + L.hd.cn≤D.dur.length) (h0:0 < L.hd.cn):flE D L=0∧Awk (flD D L)∧(flL D L).sure=endOf L∧endOf (flL D L)=endOf L∧∀j,j < D.dur.length→(∀a,secOf L a≠j)→(flD D L).at j=D.at j:=by
 have hz:=awk_flW L hc h0 L.tail.length 0 D h rfl
 have hz1:(flZ D L).1=0:=hz.1
 have hz2:Awk (flZ D L).2:=hz.2.1
 have hz3:(flZ D L).2.dur.length=D.dur.length:=hz.2.2
 have hE:flE D L=0:=by
  unfold flE
  rw [if_neg (by rw [h.1];decide)]
  split
  ·rfl
  ·rw [hz1,if_neg (by decide)]
   exact awk_sync hz2
 refine ⟨hE, ?_, ?_, ?_,fun j hj hs=> ?_⟩
 ·unfold flD
  rw [if_neg (by rw [h.1];decide)]
  split
  ·exact h
  ·rw [hz1,if_neg (by decide)]
   exact awk_sD hz2
 ·unfold flL
  rw [hE]
  by_cases hs:L.sure=endOf L
  ·rw [if_neg (fun hh=>hh.2 hs)];exact hs
  ·rw [if_pos ⟨rfl,hs⟩];rfl
 ·unfold flL
  split
  ·exact endOf_sure L
  ·rfl
 ·unfold flD
  rw [if_neg (by rw [h.1];decide)]
  split
  ·rfl
  ·rw [hz1,if_neg (by decide),at_sD hz2 j (by rw [hz3];exact hj)]
   exact flW_at L hc h0 j hs L.tail.length 0 D h rfl
end
def cont (S:St) (i:Nat):List UInt8×Nat:=match S.P.H i with
 | some f=>(f.by_,f.last)
 | none=>((frameB (S.D.at (S.P.at_ + i))).by_,(frameB (S.D.at (S.P.at_ + i))).last)
structure Good (S:St):Prop where
 awk:Awk S.D
 apart:S.L.at_ + 1 + S.L.hd.cn≤S.P.at_
 same:∀i f,S.P.H i=some f→f.ch=false→(f.by_,f.last)=((frameB (S.D.at (S.P.at_ + i))).by_,(frameB (S.D.at (S.P.at_ + i))).last)
 ahead:∀i f,S.P.H i=some f→f.hi < endOf S.L∧(f.ch=true→f.last≤f.hi)
 wal:∀i,i < S.P.pages→(frameB (S.D.at (S.P.at_ + i))).last < S.L.sure∨(frameB (S.D.at (S.P.at_ + i))).last=0
 sure:S.L.sure≤endOf S.L
 pos:0 < S.L.sure
section
variable {S:St} {c i:Nat} {f:Fm}
theorem sec_far (g:Good S) (h0:0 < S.L.hd.cn) (j:Nat):∀a,secOf S.L a≠S.P.at_ + j:=fun a=>by
 have h1:=Nat.mod_lt (a / 480) h0
 have h2:=g.apart
 unfold secOf
 omega
theorem aheadR_good (g:Good S) (ft:S.Fit c) (hf:S.P.H i=some f) (hch:f.ch=true):(aheadR S f).1=0∧Awk (aheadR S f).2.D∧endOf (aheadR S f).2.L=endOf S.L∧S.L.sure≤(aheadR S f).2.L.sure∧(aheadR S f).2.L.sure≤endOf S.L∧f.hi < (aheadR S f).2.L.sure∧(aheadR S f).2.L.at_=S.L.at_∧(aheadR S f).2.L.hd=S.L.hd∧∀j,j < S.P.pages→(aheadR S f).2.D.at (S.P.at_ + j)=S.D.at (S.P.at_ + j):=by
 have hcn:0 < S.L.hd.cn:=by have:=ft.log.cn;omega
 obtain ⟨e1,e2,e3,e4,e5⟩:=fl_good (L:=S.L) g.awk ft.log.at_ hcn
 unfold aheadR
 split
 ·refine ⟨e1,e2,e4, ?_, ?_, ?_,(flL_hd _ _).2.1,(flL_hd _ _).1,fun j hj=> ?_⟩
  ·show S.L.sure≤(flL S.D S.L).sure
   rw [e3];exact g.sure
  ·show (flL S.D S.L).sure≤_
   rw [e3];exact Nat.le_refl _
  ·show f.hi < (flL S.D S.L).sure
   rw [e3];exact (g.ahead i f hf).1
  ·exact e5 _ (by have h1:S.P.at_ + S.P.pages≤S.D.dur.length:=ft.pool.at_;omega) (sec_far g hcn j)
 ·rename_i h1
  exact ⟨rfl,g.awk,rfl,Nat.le_refl _,g.sure,by show f.hi < S.L.sure;omega,rfl,rfl,fun j _=>rfl⟩
theorem storeR_good (g:Good S) (ft:S.Fit c) (hc:c≤400000) (hf:S.P.H i=some f) (hch:f.ch=true):(storeR S i f).1=0∧Awk (storeR S i f).2.D∧endOf (storeR S i f).2.L=endOf S.L∧S.L.sure≤(storeR S i f).2.L.sure∧(storeR S i f).2.L.sure≤endOf S.L∧f.hi < (storeR S i f).2.L.sure∧(storeR S i f).2.L.at_=S.L.at_∧∀j,j < S.P.pages→(storeR S i f).2.D.at (S.P.at_ + j)=if j=i then secB f else S.D.at (S.P.at_ + j):=by
 obtain ⟨a1,a2,a3,a4,a5,a6,a7,a8,a9⟩:=aheadR_good g ft hf hch
 obtain ⟨hip,hfo⟩:=ft.pool.page i f hf
 obtain ⟨b1,b2⟩:=aheadR_fit (f:=f) ft hc
 obtain ⟨q1,q2,-⟩:=aheadR_is (S:=S) (f:=f)
 have hlt:(aheadR S f).2.P.at_ + i < (aheadR S f).2.D.dur.length:=by
  rw [q1,b2]
  have h1:S.P.at_ + S.P.pages≤S.D.dur.length:=ft.pool.at_
  omega
 have hw:=awk_write a2 ((aheadR S f).2.P.at_ + i) (secB f) hlt (secB_len hfo.by_)
 have hat:=fun j=>at_wD a2 ((aheadR S f).2.P.at_ + i) (secB f) hlt (secB_len hfo.by_) j
 have hp1:(putR (aheadR S f).2 i f).1=0:=hw.1
 unfold storeR
 rw [a1,if_neg (fun h=>h rfl),hp1,if_neg (fun h=>h rfl)]
 refine ⟨rfl,hw.2.1,a3,a4,a5,a6,a7,fun j hj=> ?_⟩
 have h1:=hat (S.P.at_ + j)
 rw [q1] at h1
 show (wD (aheadR S f).2.D (((aheadR S f).2.P.at_ + i:Nat):Int) (secB f)).at (S.P.at_ + j)=_
 rw [q1,h1]
 by_cases e:j=i
 ·subst e;rw [if_pos rfl,if_pos rfl]
 ·rw [if_neg (by omega),if_neg e,a9 j hj]
theorem roomR_good (g:Good S) (ft:S.Fit c) (hc:c≤400000) (hr:S.P.n < S.P.frames∨idle S.P.H S.P.pages≠none):(roomR S).1=0∧Good (roomR S).2∧(∀j,j < S.P.pages→cont (roomR S).2 j=cont S j)∧(∀j f,S.P.H j=some f→f.pins≠0→(roomR S).2.P.H j=some f)∧endOf (roomR S).2.L=endOf S.L∧S.L.sure≤(roomR S).2.L.sure:=by
 unfold roomR
 split
 ·exact ⟨rfl,g,fun j _=>rfl,fun j f hj _=>hj,rfl,Nat.le_refl _⟩
 ·rename_i h1
  cases hid:idle S.P.H S.P.pages with
  | none=>exact absurd hid (by rcases hr with h | h;exact absurd h h1;exact h)
  | some i=>
   obtain ⟨f,hf,hp0,hip⟩:=idle_is hid
   simp only [hf]
   have hfo:=(ft.pool.page i f hf).2
   by_cases hch:f.ch=true
   ·rw [if_pos hch]
    obtain ⟨s1,s2,s3,s4,s5,s6,s7,s8⟩:=storeR_good g ft hc hf hch
    obtain ⟨e1,e2,e3,e4,e5,e6,e7⟩:=storeR_P S i f
    rw [s1,if_neg (fun h=>h rfl)]
    obtain ⟨fb1,fb2⟩:=frameB_sec hfo.by_ hfo.last
    refine ⟨rfl,⟨s2, ?_,fun j g' hj hc' => ?_,fun j g' hj=> ?_,fun j hj=> ?_, ?_, ?_⟩,fun j hj=> ?_,fun j g' hj hp=> ?_,s3,s4⟩
    ·show (storeR S i f).2.L.at_ + 1 + (storeR S i f).2.L.hd.cn≤(storeR S i f).2.P.at_
     rw [s7,e7,e3];exact g.apart
    ·obtain ⟨n1,n2⟩:=upM_nil hj
     rw [e1] at n2
     show _=((frameB ((storeR S i f).2.D.at ((storeR S i f).2.P.at_ + j))).by_,(frameB ((storeR S i f).2.D.at ((storeR S i f).2.P.at_ + j))).last)
     rw [e3,s8 j (ft.pool.page j g' n2).1,if_neg n1]
     exact g.same j g' n2 hc'
    ·obtain ⟨n1,n2⟩:=upM_nil hj
     rw [e1] at n2
     show _ < endOf (storeR S i f).2.L∧_
     rw [s3];exact g.ahead j g' n2
    ·have hj':j < S.P.pages:=by rw [← e4];exact hj
     show (frameB ((storeR S i f).2.D.at ((storeR S i f).2.P.at_ + j))).last < (storeR S i f).2.L.sure∨(frameB ((storeR S i f).2.D.at ((storeR S i f).2.P.at_ + j))).last=0
     rw [e3,s8 j hj']
     by_cases e:j=i
     ·rw [if_pos e,fb2]
      have:=(g.ahead i f hf).2 hch
      exact .inl (by omega)
     ·rw [if_neg e]
      rcases g.wal j hj' with h | h
      ·exact .inl (by omega)
      ·exact .inr h
    ·show (storeR S i f).2.L.sure≤endOf (storeR S i f).2.L
     rw [s3];exact s5
    ·exact Nat.lt_of_lt_of_le g.pos s4
    ·unfold cont
     show (match upM (storeR S i f).2.P.H i none j with | some f=>(f.by_,f.last) | none=>((frameB ((storeR S i f).2.D.at ((storeR S i f).2.P.at_ + j))).by_,(frameB ((storeR S i f).2.D.at ((storeR S i f).2.P.at_ + j))).last))=_
     rw [e3,s8 j hj]
     by_cases e:j=i
     ·subst e
      rw [upM_same,hf,if_pos rfl]
      simp only [fb1,fb2]
     ·rw [upM_other _ _ e,e1,if_neg e]
    ·have e:j≠i:=fun e=>by
      subst e
      rw [hf] at hj
      injection hj with hj
      rw [← hj] at hp
      exact hp hp0
     show upM (storeR S i f).2.P.H i none j=some g'
     rw [upM_other _ _ e,e1];exact hj
   ·rw [if_neg hch]
    have hcf:f.ch=false:=by simpa using hch
    refine ⟨rfl,⟨g.awk,g.apart,fun j g' hj hc' =>g.same j g' (upM_nil hj).2 hc',fun j g' hj=>g.ahead j g' (upM_nil hj).2,g.wal,g.sure,g.pos⟩,fun j hj=> ?_,fun j g' hj hp=> ?_,rfl,Nat.le_refl _⟩
    ·unfold cont
     show (match upM S.P.H i none j with | some f=>(f.by_,f.last) | none=>((frameB (S.D.at (S.P.at_ + j))).by_,(frameB (S.D.at (S.P.at_ + j))).last))=_
     by_cases e:j=i
     ·subst e
      rw [upM_same,hf]
      exact (g.same j f hf hcf).symm
     ·rw [upM_other _ _ e]
    ·have e:j≠i:=fun e=>by
      subst e
      rw [hf] at hj
      injection hj with hj
      rw [← hj] at hp
      exact hp hp0
     show upM S.P.H i none j=some g'
     rw [upM_other _ _ e];exact hj
theorem pageR_good (g:Good S) (ft:S.Fit c) (hc:c≤400000) (hi:i < S.P.pages) (hr:S.P.H i≠none∨S.P.n < S.P.frames∨idle S.P.H S.P.pages≠none):
  (pageR S (i:Int)).1=0∧Good (pageR S (i:Int)).2∧(∀j,j < S.P.pages→cont (pageR S (i:Int)).2 j=cont S j)∧(∀j f,j≠i→S.P.H j=some f→f.pins≠0→(pageR S (i:Int)).2.P.H j=some f)∧
  (∃f,(pageR S (i:Int)).2.P.H i=some f∧(f.by_,f.last)=cont S i∧f.pins=(match S.P.H i with | some f0=>f0.pins | none=>0)∧(f.ch=true→∃f0,S.P.H i=some f0∧f0.ch=true))∧endOf (pageR S (i:Int)).2.L=endOf S.L∧S.L.sure≤(pageR S (i:Int)).2.L.sure:=by
 unfold pageR
 rw [if_neg (by omega),Int.toNat_natCast]
 cases hH:S.P.H i with
 | some f=>
  refine ⟨rfl,⟨g.awk,g.apart,fun j g' hj hc' => ?_,fun j g' hj=> ?_,g.wal,g.sure,g.pos⟩,fun j hj=> ?_,fun j g' e hj _=> ?_,⟨_,upM_same _ _ _, ?_,rfl,fun h=>⟨f,rfl,h⟩⟩,rfl,Nat.le_refl _⟩
  ·by_cases e:j=i
   ·subst e
    have hj:=Option.some.inj ((upM_same _ _ _).symm.trans hj)
    subst hj
    exact g.same j f hH hc'
   ·exact g.same j g' ((upM_other _ _ e).symm.trans hj) hc'
  ·by_cases e:j=i
   ·subst e
    have hj:=Option.some.inj ((upM_same _ _ _).symm.trans hj)
    subst hj
    exact g.ahead j f hH
   ·exact g.ahead j g' ((upM_other _ _ e).symm.trans hj)
  ·unfold cont askP
   by_cases e:j=i
   ·subst e;simp only [upM_same,hH]
   ·simp only [upM_other _ _ e]
  ·exact (upM_other _ _ e).trans hj
  ·unfold cont;rw [hH]
 | none=>
  have hr2:S.P.n < S.P.frames∨idle S.P.H S.P.pages≠none:=by
   rcases hr with h | h
   ·exact absurd hH h
   ·exact h
  obtain ⟨r1,r2,r3,r4,r5,r6⟩:=roomR_good g ft hc hr2
  obtain ⟨f1,f2,f3,f4,f5,f6,f7,f8,f9⟩:=roomR_fit ft hc
  have hlt:S.P.at_ + i < S.D.dur.length:=by
   have h1:S.P.at_ + S.P.pages≤S.D.dur.length:=ft.pool.at_
   omega
  have hgE:gE S.D ((S.P.at_:Int) + (i:Int))=0:=by
   unfold gE
   rw [if_neg (by omega),if_neg (by rw [g.awk.1];decide)]
  have hgB:gB S.D ((S.P.at_:Int) + (i:Int))=S.D.at (S.P.at_ + i):=by
   unfold gB
   rw [if_neg (by omega),if_neg (by rw [g.awk.1];decide)]
   congr 1
  simp only [hgE]
  rw [if_neg (fun h=>h rfl),r1,if_neg (fun h=>h rfl),hgB]
  have hno:(roomR S).2.P.H i=none:=by
   cases hq:(roomR S).2.P.H i with
   | none=>rfl
   | some g' =>have h1:=f5 i g' hq;rw [hH] at h1;cases h1
  have hdi:((frameB (S.D.at (S.P.at_ + i))).by_,(frameB (S.D.at (S.P.at_ + i))).last)=((frameB ((roomR S).2.D.at ((roomR S).2.P.at_ + i))).by_,(frameB ((roomR S).2.D.at ((roomR S).2.P.at_ + i))).last):=by
   have h1:=r3 i hi
   unfold cont at h1
   rw [hno,hH] at h1
   exact h1.symm
  refine ⟨rfl,⟨r2.awk,r2.apart,fun j g' hj hc' => ?_,fun j g' hj=> ?_,r2.wal,r2.sure,r2.pos⟩,fun j hj=> ?_,fun j g' e hj hp=> ?_,⟨_,upM_same _ _ _, ?_,rfl,fun h=>absurd (show false=true from h) (by decide)⟩,r5,r6⟩
  ·by_cases e:j=i
   ·subst e
    have hj:=Option.some.inj ((upM_same _ _ _).symm.trans hj)
    subst hj
    exact hdi
   ·exact r2.same j g' (((upM_other _ _ e).symm.trans ((upM_other _ _ e).symm.trans hj))) hc'
  ·by_cases e:j=i
   ·subst e
    have hj:=Option.some.inj ((upM_same _ _ _).symm.trans hj)
    subst hj
    exact ⟨Nat.lt_of_lt_of_le r2.pos r2.sure,fun h=>absurd (show false=true from h) (by decide)⟩
   ·exact r2.ahead j g' (((upM_other _ _ e).symm.trans ((upM_other _ _ e).symm.trans hj)))
  ·rw [← r3 j hj]
   unfold cont askP bringP
   by_cases e:j=i
   ·subst e;simp only [upM_same,hno];exact hdi
   ·simp only [upM_other _ _ e]
  ·exact (upM_other _ _ e).trans ((upM_other _ _ e).trans (r4 j g' hj hp))
  ·unfold cont;rw [hH]
theorem idle_ne {P:Pl} {n:Nat} (ok:P.Ok n):∀(k i:Nat) (f:Fm),P.H i=some f→f.pins=0→f.used≤k→idle P.H P.pages≠none
 | k,i,f,hi,hp,hk=>by
  by_cases hm:∀j g,P.H j=some g→g.pins=0→f.used≤g.used
  ·rw [idle_some ok hi hp hm];simp
  ·have ⟨j,g,hj,hg,hlt⟩:∃j g,P.H j=some g∧g.pins=0∧g.used < f.used:=by
    apply Classical.byContradiction
    intro hn
    exact hm fun j g hj hg=>Nat.le_of_not_lt fun hl=>hn ⟨j,g,hj,hg,hl⟩
   cases k with
   | zero=>omega
   | succ k=>exact idle_ne ok k j g hj hg (by omega)
theorem page_new (g:Awk S.D) (ft:S.Fit c) (hi:i < S.P.pages) (hH:S.P.H i=none) (hn:S.P.n < S.P.frames):
  pageR S (i:Int)=(0,{ S with P:=askP (bringP S.P i (S.D.at (S.P.at_ + i))) i (frameB (S.D.at (S.P.at_ + i))) }):=by
 have hlt:S.P.at_ + i < S.D.dur.length:=by
  have h1:S.P.at_ + S.P.pages≤S.D.dur.length:=ft.pool.at_
  omega
 have hgE:gE S.D ((S.P.at_:Int) + (i:Int))=0:=by
  unfold gE
  rw [if_neg (by omega),if_neg (by rw [g.1];decide)]
 have hgB:gB S.D ((S.P.at_:Int) + (i:Int))=S.D.at (S.P.at_ + i):=by
  unfold gB
  rw [if_neg (by omega),if_neg (by rw [g.1];decide)]
  congr 1
 have hrm:roomR S=(0,S):=by unfold roomR;rw [if_pos hn]
 unfold pageR
 rw [if_neg (by omega),Int.toNat_natCast,hH]
 simp only [hgE,hgB,hrm]
 rw [if_neg (fun h=>h rfl),if_neg (fun h=>h rfl)]
theorem write_good (g:Good S) (hf:S.P.H i=some f) (off:Nat) (m:List UInt8) (lsn:Nat) (hl:lsn < endOf S.L):Good (setS S i (chF f off m lsn))∧∀j,cont (setS S i (chF f off m lsn)) j=if j=i then (over f.by_ off m,lsn) else cont S j:=by
 refine ⟨⟨g.awk,g.apart,fun j g' hj hc' => ?_,fun j g' hj=> ?_,g.wal,g.sure,g.pos⟩,fun j=> ?_⟩
 ·by_cases e:j=i
  ·subst e
   have hj:=Option.some.inj ((upM_same _ _ _).symm.trans hj)
   subst hj
   exact absurd (show true=false from hc') (by decide)
  ·exact g.same j g' ((upM_other _ _ e).symm.trans hj) hc'
 ·by_cases e:j=i
  ·subst e
   have hj:=Option.some.inj ((upM_same _ _ _).symm.trans hj)
   subst hj
   have h1:=(g.ahead j f hf).1
   refine ⟨?_,fun _=>Nat.le_max_right _ _⟩
   show max f.hi lsn < endOf S.L
   omega
  ·exact g.ahead j g' ((upM_other _ _ e).symm.trans hj)
 ·unfold cont setS
  by_cases e:j=i
  ·subst e;simp only [upM_same,if_pos];rfl
  ·simp only [upM_other _ _ e,if_neg e]
theorem chF_ok {P:Pl} (h:f.Ok P) (off:Nat) (m:List UInt8) (lsn:Nat) (hm:off + m.length≤504) (hl:lsn < 18446744073709551616):(chF f off m lsn).Ok P:=by
 refine ⟨by show (over f.by_ off m).length=504;rw [over_length _ _ _ (by rw [h.by_];exact hm),h.by_],hl, ?_, ?_,h.pins,h.used⟩
 ·show max f.hi lsn < _
  have:=h.hi;omega
 ·show (if f.ch=true then f.since else lsn) < _
  split
  ·exact h.since
  ·exact hl
theorem setS_fit {f':Fm} (ft:S.Fit c) (hf:S.P.H i=some f) (h:f'.Ok S.P) (hu:f'.used=f.used):(setS S i f').Fit c:=by
 have back:∀j g,upM S.P.H i (some f') j=some g→∃g',S.P.H j=some g'∧g.Ok S.P∧g'.used=g.used:=fun j g hj=>by
  by_cases e:j=i
  ·subst e
   rw [upM_same] at hj
   have hj:=Option.some.inj hj
   subst hj
   exact ⟨f,hf,h,hu.symm⟩
  ·rw [upM_other _ _ e] at hj
   exact ⟨g,hj,(ft.pool.page j g hj).2,rfl⟩
 refine ⟨ft.bd,ft.log,⟨ft.pool.at_,ft.pool.max,ft.pool.pages,ft.pool.frames,fun j g hj=> ?_,fun j k g g' hj hk hu=> ?_,ft.pool.cnt,ft.pool.way,ft.pool.sure⟩,ft.pen,ft.ops,ft.tail,ft.sure,ft.asked,ft.wcnt⟩
 ·obtain ⟨g',h1,h2,-⟩:=back j g hj
  exact ⟨(ft.pool.page j g' h1).1,⟨h2.by_,h2.last,h2.hi,h2.since,h2.pins,h2.used⟩⟩
 ·obtain ⟨g1,h1,-,h2⟩:=back j g hj
  obtain ⟨g3,h3,-,h4⟩:=back k g' hk
  exact ft.pool.one j k g1 g3 h1 h3 (by omega)
end
def zB:List UInt8:=List.replicate 504 0
theorem frameB_zero:(frameB (List.replicate 512 0)).by_=zB∧(frameB (List.replicate 512 0)).last=0:=by
 unfold frameB zB
 refine ⟨?_, ?_⟩
 ·show (List.replicate 512 (0:UInt8)).drop 8=_
  rw [List.drop_replicate]
 ·show (num ((List.replicate 512 (0:UInt8)).take 8)).toNat=0
  rw [List.take_replicate]
  decide
section
variable {w0 w w':World} {Z:Pk} {D:Dk} {L:Lg} {P:Pl}
theorem frc_bytes (b:UInt8) (fr:Nat×Nat) (w:World):Rd (w.alloc (.cells #[.int .u8 (b.toNat:Int)] 5 fr)) (some ⟨w.heap.size,0,none⟩) [b]:=Rd.newf w 5 [b] [] fr
end
structure Sr where
 count:Nat
 begun:Nat
 op:Bool
 number:Nat
 first:Nat
 last:Nat
 fallen:Bool
def srC (Z:Pk) (R:Sr):List Value:= [.pointer (some ⟨Z.X.g,0,none⟩), .pointer (some ⟨Z.X.q,0,none⟩), .pointer (some ⟨Z.q,0,none⟩), .int .i64 (R.count:Int), .int .u64 (R.begun:Int), .bool R.op, .int .u64 (R.number:Int), .int .u64 (R.first:Int), .int .u64 (R.last:Int), .bool R.fallen]
structure StoAt (w0 w:World) (Z:Pk) (s:Nat) (S:St) (R:Sr):Prop where
 pool:PlAt w0 w Z S.D S.L S.P
 blk:Rw w s 70 (srC Z R)
 base:w0.heap.size≤s
structure Sfr (Z:Pk) (s:Nat) (P:Pl) (w w':World):Prop where
 os:w'.os=w.os
 tape:w'.tape=w.tape
 output:w'.output=w.output
 size:w.heap.size≤w'.heap.size
 other:∀k,k < w.heap.size→¬Z.has P k→k≠s→w'.heap[k]? =w.heap[k]?
section
variable {w0 w w':World} {Z:Pk} {s:Nat} {S:St} {R:Sr}
theorem StoAt.ext_ (h:StoAt w0 w Z s S R) (hx:Ext w w'):StoAt w0 w' Z s S R:=⟨h.pool.ext_ hx,h.blk.ext hx,h.base⟩
theorem StoAt.not_has (h:StoAt w0 w Z s S R):¬Z.has S.P s:=fun hh=>by
 have hr:=h.blk
 rcases hh with hh | e | e | e | ⟨i,f,hf,e⟩
 ·exact h.pool.log.not_rw hr (by decide) hh
 ·exact h.pool.blk.apart hr (by decide) e.symm
 ·exact rw_ne_map hr h.pool.held e
 ·exact rw_ne_map hr h.pool.way e
 ·exact (h.pool.fr i f hf).apart hr (by decide) e.symm
theorem StoAt.put (h:StoAt w0 w Z s S R) (i:Nat) (v:Value) (R':Sr) (hv:(srC Z R).set i v=srC Z R'):StoAt w0 (w.setCell ⟨s,i,none⟩ v) Z s S R':=by
 have hx:=h.pool.log.ext
 have ho:∀k,k≠s→(w.setCell ⟨s,i,none⟩ v).heap[k]? =w.heap[k]? :=fun k hk=>Below.heap_setCell w ⟨s,i,none⟩ v k hk
 refine ⟨h.pool.keep ⟨hx.os,hx.tape,hx.output,by simpa using hx.size,fun k hk=>(ho k (fun e=>by have:=h.base;omega)).trans (Below.block hx k hk)⟩ fun k hk=>ho k (fun e=>h.not_has (by rw [← e];exact hk)),by rw [← hv];exact h.blk.set i v,h.base⟩
theorem Sfr.cell (i:Nat) (v:Value):Sfr Z s S.P w (w.setCell ⟨s,i,none⟩ v):=⟨rfl,rfl,rfl,by simp,fun k _ _ h2=>Below.heap_setCell w ⟨s,i,none⟩ v k h2⟩
theorem StoAt.later {Z':Pk} {S':St} (h:StoAt w0 w Z s S R) (k1:PlAt w0 w' Z' S'.D S'.L S'.P) (k2:Pfr Z S.P w w') (k3:Z'.Later S'.P Z S.P w):StoAt w0 w' Z' s S' R:=by
 refine ⟨k1, ?_,h.base⟩
 have e:srC Z' R=srC Z R:=by unfold srC;rw [k3.X.g,k3.X.q,k3.q]
 rw [e]
 exact (k2.other s h.blk.lt h.not_has).trans h.blk
theorem Sfr.of (h:Pfr Z S.P w w'):Sfr Z s S.P w w':=⟨h.os,h.tape,h.output,h.size,fun k h1 h2 _=>h.other k h1 h2⟩
theorem spagesAt_any (c:Nat) (hc:c < 1000000) (w:World):Calls Tryz.prog 26 #[.int .i64 (c:Int)] w (Same w (.int .i64 ((1 + c:Nat):Int))):=by
 have hw:IntKind.i64.wrap (1 + (c:Int))=((1 + c:Nat):Int):=by rw [IntKind.wrap_i64];omega
 go_enter Tryz.func26,Tryz.ntmps26
 go_wp2
 go_ret
 exact ⟨rfl,rfl⟩
theorem sintx_nil (w:World):Calls Tryz.prog 19 #[.pointer none] w (Same w (.bool false)):=by
 go_enter Tryz.func19,Tryz.ntmps19
 go_wp2
 go_ret
 exact ⟨rfl,rfl⟩
theorem sintx_any (h:StoAt w0 w Z s S R):Calls Tryz.prog 19 #[.pointer (some ⟨s,0,none⟩)] w (Same w (.bool R.op)):=by
 have c5:=h.blk.cell (i:=5) rfl
 clear h
 go_enter Tryz.func19,Tryz.ntmps19
 go_wp2
 go_ret
 exact ⟨rfl,rfl⟩
def seenR (R:Sr) (e:Int):Sr:=if e=8 then { R with fallen:=true } else R
theorem sseen_any (h:StoAt w0 w Z s S R) (e:Int):Calls Tryz.prog 34 #[.pointer (some ⟨s,0,none⟩), .int .i64 e] w (fun en w' =>en= .returned (.int .i64 e)∧StoAt w0 w' Z s S (seenR R e)∧Sfr Z s S.P w w'):=by
 have H:=hide h
 have c9:=h.blk.cell (i:=9) rfl
 have f9:=h.blk.frozen 9
 unfold seenR
 clear h
 by_cases he:e=8
 ·subst he
  rw [if_pos rfl]
  go_enter Tryz.func34,Tryz.ntmps34
  go_wp2
  go_ret
  exact ⟨rfl,H.out.put 9 _ _ rfl,Sfr.cell 9 _⟩
 ·rw [if_neg he]
  go_enter Tryz.func34,Tryz.ntmps34
  go_wp2
  go_ret
  exact ⟨rfl,H.out,Sfr.of ⟨rfl,rfl,rfl,Nat.le_refl _,fun _ _ _=>rfl⟩⟩
theorem sready_nil (w:World):Calls Tryz.prog 32 #[.pointer none] w (Same w (.int .i64 6)):=by
 go_enter Tryz.func32,Tryz.ntmps32
 go_wp2
 go_ret
 exact ⟨rfl,rfl⟩
def readyE (D:Dk) (R:Sr):Int:=if R.fallen=true∨D.off=true then 8 else 0
theorem sready_any (h:StoAt w0 w Z s S R):Calls Tryz.prog 32 #[.pointer (some ⟨s,0,none⟩)] w (fun en w' =>en= .returned (.int .i64 (readyE S.D R))∧StoAt w0 w' Z s S (seenR R (readyE S.D R))∧Sfr Z s S.P w w'):=by
 have c9:=h.blk.cell (i:=9) rfl
 have c0:=h.blk.cell (i:=0) rfl
 have KO:=hide (on_any h.pool.log.disk)
 have KS:=hide (sseen_any h 8)
 have H:=hide h
 unfold readyE
 obtain ⟨count,begun,op,number,first,last,fl⟩:=R
 obtain ⟨off,HOF⟩:∃off,Hid (S.D.off=off):=⟨_,hide rfl⟩
 rw [HOF.out] at KO ⊢
 clear h
 simp only at c9 ⊢
 cases fl with
 | true=>
  rw [if_pos (.inl rfl)]
  go_enter Tryz.func32,Tryz.ntmps32
  go_wp2_with (go_at_call 34;(with_reducible refine KS.out.mono ?_);rintro e w2 ⟨rfl,h2,h3⟩;have H2:=hide h2;have H3:=hide h3;clear h2 h3)
  go_ret
  exact ⟨rfl,H2.out,H3.out⟩
 | false=>
  cases off with
  | true=>
   rw [if_pos (.inr rfl)]
   go_enter Tryz.func32,Tryz.ntmps32
   go_wp2_with (first
    | (go_at_call 57;(with_reducible refine KO.out.mono ?_);rintro e w2 ⟨rfl,hw2⟩;subst hw2)
    | (go_at_call 34;(with_reducible refine KS.out.mono ?_);rintro e w2 ⟨rfl,h2,h3⟩;have H2:=hide h2;have H3:=hide h3;clear h2 h3))
   go_ret
   exact ⟨rfl,H2.out,H3.out⟩
  | false=>
   rw [if_neg (by simp)]
   go_enter Tryz.func32,Tryz.ntmps32
   go_wp2_with (go_at_call 57;(with_reducible refine KO.out.mono ?_);rintro e w2 ⟨rfl,hw2⟩;subst hw2)
   go_ret
   exact ⟨rfl,H.out,Sfr.of ⟨rfl,rfl,rfl,Nat.le_refl _,fun _ _ _=>rfl⟩⟩
theorem spages_nil (w:World):Calls Tryz.prog 17 #[.pointer none] w (Same w (.int .i64 0)):=by
 go_enter Tryz.func17,Tryz.ntmps17
 go_wp2
 go_ret
 exact ⟨rfl,rfl⟩
theorem sroom_nil (w:World):Calls Tryz.prog 18 #[.pointer none] w (Same w (.int .i64 0)):=by
 go_enter Tryz.func18,Tryz.ntmps18
 go_wp2
 go_ret
 exact ⟨rfl,rfl⟩
end
section
variable {w0 w w':World} {Z:Pk} {s:Nat} {S:St} {R:Sr}
def stFitsE (D:Dk) (c:Int):Int:=if c < 16∨(D.dur.length:Int) - 2 < c then 1 else 0
theorem sfits_nil (c:Int) (w:World):Calls Tryz.prog 24 #[.pointer none, .int .i64 c] w (Same w (.int .i64 6)):=by
 go_enter Tryz.func24,Tryz.ntmps24
 go_wp2
 go_ret
 exact ⟨rfl,rfl⟩
theorem sfits_any {B g gd gn cA:Nat} {A:Option Addr} {D:Dk} (h:DiskAt B w g gd gn A cA D) (hd:D.dur.length≤4096) (c:Int):Calls Tryz.prog 24 #[.pointer (some ⟨g,0,none⟩), .int .i64 c] w (Same w (.int .i64 (stFitsE D c))):=by
 have KL:=hide (len_any h)
 obtain ⟨dl,HDL⟩:∃dl:Int,Hid ((D.dur.length:Int)=dl):=⟨_,hide rfl⟩
 rw [HDL.out] at KL
 have hw:IntKind.i64.wrap (dl - 2)=dl - 2:=by rw [IntKind.wrap_i64];have:=HDL.out;omega
 unfold stFitsE
 rw [HDL.out]
 clear h hd
 by_cases h1:c < 16
 ·rw [if_pos (.inl h1)]
  go_enter Tryz.func24,Tryz.ntmps24
  go_wp2
  go_ret
  exact ⟨rfl,rfl⟩
 ·by_cases h2:dl - 2 < c
  ·rw [if_pos (.inr h2)]
   go_enter Tryz.func24,Tryz.ntmps24
   go_wp2_with (go_at_call 27;(with_reducible refine KL.out.mono ?_);rintro e w2 ⟨rfl,hw2⟩;subst hw2)
   go_ret
   exact ⟨rfl,rfl⟩
  ·rw [if_neg (fun hh=>hh.elim h1 h2)]
   go_enter Tryz.func24,Tryz.ntmps24
   go_wp2_with (go_at_call 27;(with_reducible refine KL.out.mono ?_);rintro e w2 ⟨rfl,hw2⟩;subst hw2)
   go_ret
   exact ⟨rfl,rfl⟩
theorem sintxE_nil (w:World):Calls Tryz.prog 36 #[.pointer none] w (Same w (.int .i64 6)):=by
 have KR:=hide (sready_nil w)
 go_enter Tryz.func36,Tryz.ntmps36
 go_wp2_with (go_at_call 32;(with_reducible refine KR.out.mono ?_);rintro e w2 ⟨rfl,hw2⟩;subst hw2)
 go_ret
 exact ⟨rfl,rfl⟩
def inTxE (D:Dk) (R:Sr):Int:=if readyE D R=0∧R.op=false then 10 else readyE D R
theorem sintxE_any (h:StoAt w0 w Z s S R):Calls Tryz.prog 36 #[.pointer (some ⟨s,0,none⟩)] w (fun en w' =>en= .returned (.int .i64 (inTxE S.D R))∧StoAt w0 w' Z s S (seenR R (readyE S.D R))∧Sfr Z s S.P w w'):=by
 have KR:=hide (sready_any h)
 unfold inTxE
 by_cases hr:readyE S.D R=0
 ·rw [hr] at KR ⊢
  have HSE:Hid (seenR R 0=R):=hide (by unfold seenR;rw [if_neg (by decide)])
  rw [HSE.out] at KR ⊢
  obtain ⟨op,HOP⟩:∃op,Hid (R.op=op):=⟨_,hide rfl⟩
  rw [HOP.out]
  clear h hr
  cases op with
  | true=>
   rw [if_neg (by simp)]
   go_enter Tryz.func36,Tryz.ntmps36
   go_wp2_with (go_at_call 32;(with_reducible refine KR.out.mono ?_);rintro e w2 ⟨rfl,h2,h3⟩;have H2:=hide h2;have H3:=hide h3;have c5:=h2.blk.cell (i:=5) rfl;rw [HOP.out] at c5;clear h2 h3)
   go_ret
   exact ⟨rfl,H2.out,H3.out⟩
  | false=>
   rw [if_pos ⟨rfl,rfl⟩]
   go_enter Tryz.func36,Tryz.ntmps36
   go_wp2_with (go_at_call 32;(with_reducible refine KR.out.mono ?_);rintro e w2 ⟨rfl,h2,h3⟩;have H2:=hide h2;have H3:=hide h3;have c5:=h2.blk.cell (i:=5) rfl;rw [HOP.out] at c5;clear h2 h3)
   go_ret
   exact ⟨rfl,H2.out,H3.out⟩
 ·have h8:readyE S.D R=8:=by
   unfold readyE at hr ⊢
   split
   ·rfl
   ·rename_i hh;rw [if_neg hh] at hr;exact absurd rfl hr
  rw [if_neg (fun hh=>hr hh.1),h8]
  rw [h8] at KR
  clear h hr h8
  go_enter Tryz.func36,Tryz.ntmps36
  go_wp2_with (go_at_call 32;(with_reducible refine KR.out.mono ?_);rintro e w2 ⟨rfl,h2,h3⟩;have H2:=hide h2;have H3:=hide h3;clear h2 h3)
  go_ret
  exact ⟨rfl,H2.out,H3.out⟩
theorem sbegin_nil (w:World):Calls Tryz.prog 10 #[.pointer none] w (Same w (.tuple #[.int .u64 0, .int .i64 6])):=by
 have KR:=hide (sready_nil w)
 go_enter Tryz.func10,Tryz.ntmps10
 go_wp2_with (go_at_call 32;(with_reducible refine KR.out.mono ?_);rintro e w2 ⟨rfl,hw2⟩;subst hw2)
 go_ret2
 exact ⟨rfl,rfl⟩
theorem sread_nil (i:Int) (w:World):Calls Tryz.prog 11 #[.pointer none, .int .i64 i] w (Same w (.tuple #[.slice none 0 0, .int .i64 6])):=by
 have KR:=hide (sready_nil w)
 go_enter Tryz.func11,Tryz.ntmps11
 go_wp2_with (go_at_call 32;(with_reducible refine KR.out.mono ?_);rintro e w2 ⟨rfl,hw2⟩;subst hw2)
 go_ret2
 exact ⟨rfl,rfl⟩
theorem swrite_nil (i:Int) (A:Option Addr) (n c:Nat) (w:World):Calls Tryz.prog 12 #[.pointer none, .int .i64 i, .slice A n c] w (Same w (.int .i64 6)):=by
 have KR:=hide (sintxE_nil w)
 go_enter Tryz.func12,Tryz.ntmps12
 go_wp2_with (go_at_call 36;(with_reducible refine KR.out.mono ?_);rintro e w2 ⟨rfl,hw2⟩;subst hw2)
 go_ret
 exact ⟨rfl,rfl⟩
theorem scommit_nil (w:World):Calls Tryz.prog 13 #[.pointer none] w (Same w (.int .i64 6)):=by
 have KR:=hide (sintxE_nil w)
 go_enter Tryz.func13,Tryz.ntmps13
 go_wp2_with (go_at_call 36;(with_reducible refine KR.out.mono ?_);rintro e w2 ⟨rfl,hw2⟩;subst hw2)
 go_ret
 exact ⟨rfl,rfl⟩
theorem sabort_nil (w:World):Calls Tryz.prog 14 #[.pointer none] w (Same w (.int .i64 6)):=by
 have KR:=hide (sintxE_nil w)
 go_enter Tryz.func14,Tryz.ntmps14
 go_wp2_with (go_at_call 36;(with_reducible refine KR.out.mono ?_);rintro e w2 ⟨rfl,hw2⟩;subst hw2)
 go_ret
 exact ⟨rfl,rfl⟩
theorem scheck_nil (w:World):Calls Tryz.prog 15 #[.pointer none] w (Same w (.int .i64 6)):=by
 have KR:=hide (sready_nil w)
 go_enter Tryz.func15,Tryz.ntmps15
 go_wp2_with (go_at_call 32;(with_reducible refine KR.out.mono ?_);rintro e w2 ⟨rfl,hw2⟩;subst hw2)
 go_ret
 exact ⟨rfl,rfl⟩
theorem sflush_nil (w:World):Calls Tryz.prog 16 #[.pointer none] w (Same w (.int .i64 6)):=by
 have KR:=hide (sready_nil w)
 go_enter Tryz.func16,Tryz.ntmps16
 go_wp2_with (go_at_call 32;(with_reducible refine KR.out.mono ?_);rintro e w2 ⟨rfl,hw2⟩;subst hw2)
 go_ret
 exact ⟨rfl,rfl⟩
theorem sopen_nil (c f:Int) (w:World):Calls Tryz.prog 8 #[.pointer none, .int .i64 c, .int .i64 f] w (Same w (.tuple #[.pointer none, .int .i64 6])):=by
 have KR:=hide (sfits_nil c w)
 go_enter Tryz.func8,Tryz.ntmps8
 go_wp2_with (go_at_call 24;(with_reducible refine KR.out.mono ?_);rintro e w2 ⟨rfl,hw2⟩;subst hw2)
 go_ret2
 exact ⟨rfl,rfl⟩
theorem sformat_nil (c:Int) (w:World):Calls Tryz.prog 7 #[.pointer none, .int .i64 c] w (Same w (.int .i64 6)):=by
 have KR:=hide (sfits_nil c w)
 go_enter Tryz.func7,Tryz.ntmps7
 go_wp2_with (go_at_call 24;(with_reducible refine KR.out.mono ?_);rintro e w2 ⟨rfl,hw2⟩;subst hw2)
 go_ret
 exact ⟨rfl,rfl⟩
end
def relL (L:Lg) (n:Nat):Lg:= { L with held:=L.held - n }
section
variable {w0 w:World} {X:Bk} {D:Dk} {L:Lg}
theorem release_ok (h:LgAt w0 w X D L) (ok:L.Ok D) (n:Nat) (hn:n≤L.held):Calls Tryz.prog 102 #[.pointer (some ⟨X.q,0,none⟩), .int .i64 (n:Int)] w (LPost w0 w X (.int .i64 0) D (relL L n)):=by
 have H:=hide h
 have c10:=h.blk.cell (i:=10) rfl
 have f10:=h.blk.frozen 10
 have hh:=ok.held
 have h0:¬(n:Int) < 0:=by omega
 have h1:¬(L.held:Int) < (n:Int):=by omega
 obtain ⟨hs2,HHS⟩:∃hs2:Int,Hid ((L.held:Int) - (n:Int)=hs2):=⟨_,hide rfl⟩
 have hhw:IntKind.i64.wrap ((L.held:Int) - (n:Int))=hs2:=by rw [← HHS.out,IntKind.wrap_i64];omega
 have HSC:Hid (hs2=((L.held - n:Nat):Int)):=hide (by rw [← HHS.out];omega)
 have HL1:Hid (LgAt w0 (w.setCell ⟨X.q,10,none⟩ (.int .i64 hs2)) X D (relL L n)):=hide (H.out.put 10 (.int .i64 hs2) (relL L n) rfl (by rw [HSC.out];rfl))
 clear h ok hn hh
 go_enter Tryz.func102,Tryz.ntmps102
 go_wp2
 go_ret
 exact ⟨X,rfl,HL1.out,Lfr.cell X _ 10 _,Bk.Later.refl _ _⟩
end
structure Rec where
 k:Int
 tx:Int
 pv:Int
 pg:Int
 off:Int
 bf:List UInt8
 af:List UInt8
 nx:Int
 dl:List (Int×Int)
 op:Bool
def hok (k:Int):Bool:=decide (1≤k) && decide (k≤6)
def hpv (k:Int):Bool:=decide (2≤k) && decide (k≤6)
def hch (k:Int):Bool:=(k==2) || (k==3)
def hbf (k:Int):Bool:=k==2
def hnx (k:Int):Bool:=k==3
def hck (k:Int):Bool:=k==6
def isPg (n:Int):Bool:=decide (0≤n) && decide (n < 4096)
def risB:Int→List (Int×Int)→Bool
 | _, []=>true
 | last,d::l=>decide (last < d.1) && (decide (d.1 < 4096) && risB d.1 l)
def RdD (w:World) (A:Option Addr) (L:List (Int×Int)):Prop:=
 L≠ []→∃b off,A=some ⟨b,off,none⟩∧∀j d,L[j]? =some d→w.cell? ⟨b,off + j * 2,none⟩=some (.int .i64 d.1)∧w.cell? ⟨b,off + j * 2 + 1,none⟩=some (.int .u64 d.2)
theorem RdD.keep {w w':World} {A:Option Addr} {L:List (Int×Int)} (h:RdD w A L) (hx:Keeps w w'):RdD w' A L:=fun hn=>by
 obtain ⟨b,off,hA,hc⟩:=h hn
 exact ⟨b,off,hA,fun j d hj=>⟨hx.cell (hc j d hj).1,hx.cell (hc j d hj).2⟩⟩
theorem RdD.ext {w w':World} {A:Option Addr} {L:List (Int×Int)} (h:RdD w A L) (hx:Ext w w'):RdD w' A L:=h.keep hx.keeps
theorem RdD.at {w:World} {A:Option Addr} {L:List (Int×Int)} (h:RdD w A L) {j:Nat} {d:Int×Int} (hj:L[j]? =some d):∃b off,A=some ⟨b,off,none⟩∧w.cell? ⟨b,off + j * 2,none⟩=some (.int .i64 d.1)∧w.cell? ⟨b,off + j * 2 + 1,none⟩=some (.int .u64 d.2):=by
 obtain ⟨b,off,hA,hc⟩:=h (by intro e;rw [e] at hj;cases hj)
 exact ⟨b,off,hA,(hc j d hj).1,(hc j d hj).2⟩
def RetB (w:World) (b:Bool) (e:Ending) (w':World):Prop:=e= .returned (.bool b)∧Ext w w'
def PartsP (k:Int) (w:World) (e:Ending) (w':World):Prop:=e= .returned (.tuple #[.agg #[.bool (hpv k), .bool (hch k), .bool (hbf k), .bool (hnx k), .bool (hck k)], .bool (hok k)])∧Ext w w'
theorem partsOf_any (k:Int) (w:World):Calls Tryz.prog 122 #[.int .u8 k] w (PartsP k w):=by
 by_cases h1:k=1
 ·subst h1
  go_enter Tryz.func122,Tryz.ntmps122
  go_wp2
  exact bodyPost_ret (v:= .tuple #[.agg #[.bool false, .bool false, .bool false, .bool false, .bool false], .bool true]) (by simp [results,Tryz.results122,go_sem]) rfl ⟨rfl,Ext.alloc _ _⟩
 by_cases h2:k=2
 ·subst h2
  clear h1
  go_enter Tryz.func122,Tryz.ntmps122
  go_wp2
  exact bodyPost_ret (v:= .tuple #[.agg #[.bool true, .bool true, .bool true, .bool false, .bool false], .bool true]) (by simp [results,Tryz.results122,go_sem]) rfl ⟨rfl,Ext.alloc _ _⟩
 by_cases h3:k=3
 ·subst h3
  clear h1
  clear h2
  go_enter Tryz.func122,Tryz.ntmps122
  go_wp2
  exact bodyPost_ret (v:= .tuple #[.agg #[.bool true, .bool true, .bool false, .bool true, .bool false], .bool true]) (by simp [results,Tryz.results122,go_sem]) rfl ⟨rfl,Ext.alloc _ _⟩
 by_cases h4:k=4
 ·subst h4
  clear h1
  clear h2
  clear h3
  go_enter Tryz.func122,Tryz.ntmps122
  go_wp2
  exact bodyPost_ret (v:= .tuple #[.agg #[.bool true, .bool false, .bool false, .bool false, .bool false], .bool true]) (by simp [results,Tryz.results122,go_sem]) rfl ⟨rfl,Ext.alloc _ _⟩
 by_cases h5:k=5
 ·subst h5
  clear h1
  clear h2
  clear h3
  clear h4
  go_enter Tryz.func122,Tryz.ntmps122
  go_wp2
  exact bodyPost_ret (v:= .tuple #[.agg #[.bool true, .bool false, .bool false, .bool false, .bool false], .bool true]) (by simp [results,Tryz.results122,go_sem]) rfl ⟨rfl,Ext.alloc _ _⟩
 by_cases h6:k=6
 ·subst h6
  clear h1
  clear h2
  clear h3
  clear h4
  clear h5
  go_enter Tryz.func122,Tryz.ntmps122
  go_wp2
  exact bodyPost_ret (v:= .tuple #[.agg #[.bool true, .bool false, .bool false, .bool false, .bool true], .bool true]) (by simp [results,Tryz.results122,go_sem]) rfl ⟨rfl,Ext.alloc _ _⟩
 have HV:PartsP k=fun w e w' =>e= .returned (.tuple #[.agg #[.bool false, .bool false, .bool false, .bool false, .bool false], .bool false])∧Ext w w':=by
  funext w e w'
  have e1:hpv k=false:=by simp only [hpv,Bool.and_eq_false_iff,decide_eq_false_iff_not];omega
  have e2:hok k=false:=by simp only [hok,Bool.and_eq_false_iff,decide_eq_false_iff_not];omega
  have e3:hch k=false:=by simp [hch,h2,h3]
  have e4:hbf k=false:=by simp [hbf,h2]
  have e5:hnx k=false:=by simp [hnx,h3]
  have e6:hck k=false:=by simp [hck,h6]
  simp only [PartsP,e1,e2,e3,e4,e5,e6]
 rw [HV]
 clear HV
 have b1:(k==1)=false:=beq_eq_false_iff_ne.2 h1
 have b2:(k==2)=false:=beq_eq_false_iff_ne.2 h2
 have b3:(k==3)=false:=beq_eq_false_iff_ne.2 h3
 have b4:(k==4)=false:=beq_eq_false_iff_ne.2 h4
 have b5:(k==5)=false:=beq_eq_false_iff_ne.2 h5
 have b6:(k==6)=false:=beq_eq_false_iff_ne.2 h6
 go_enter Tryz.func122,Tryz.ntmps122
 go_wp2
 exact bodyPost_ret (v:= .tuple #[.agg #[.bool false, .bool false, .bool false, .bool false, .bool false], .bool false]) (by simp [results,Tryz.results122,go_sem]) rfl ⟨rfl,Ext.alloc _ _⟩
theorem isPage_any (n:Int) (w:World):Calls Tryz.prog 155 #[.int .i64 n] w (fun e w' =>e= .returned (.bool (isPg n))∧w' =w):=by
 by_cases h0:0≤n
 ·by_cases h1:n < 4096
  ·have HV:isPg n=true:=by simp [isPg];omega
   rw [HV]
   clear HV
   go_enter Tryz.func155,Tryz.ntmps155
   go_wp2
   go_ret
   exact ⟨rfl,rfl⟩
  ·have hd1:decide (n < 4096)=false:=decide_eq_false h1
   have HV:isPg n=false:=by simp [isPg];omega
   rw [HV]
   clear HV
   go_enter Tryz.func155,Tryz.ntmps155
   go_wp2
   go_ret
   exact ⟨rfl,rfl⟩
 ·have hd0:decide (0≤n)=false:=decide_eq_false h0
  have HV:isPg n=false:=by simp [isPg];omega
  rw [HV]
  clear HV
  go_enter Tryz.func155,Tryz.ntmps155
  go_wp2
  go_ret
  exact ⟨rfl,rfl⟩
def chgN (pg off:Int) (na nb:Nat) (c b:Bool):Bool:=if c then isPg pg && (decide (1≤na) && ((nb==if b then na else 0) && (decide (0≤off) && decide (off≤512 - (na:Int))))) else (pg==0) && ((off==0) && ((na==0) && (nb==0)))
theorem changeFits_any (k tx pv pg off nx:Int) (A B D:Option Addr) (nb a na b' nd d:Nat) (op:Bool) (p c b n x:Bool) (w:World) (hna:na≤140737488351232) (hnb:nb≤140737488351232) (ho: -9223372036854775808≤off) (ho2:off < 9223372036854775808):
  Calls Tryz.prog 136 #[.agg #[.int .u8 k, .int .u64 tx, .int .u64 pv, .int .i64 pg, .int .i64 off, .slice A nb a, .slice B na b', .int .u64 nx, .slice D nd d, .bool op], .agg #[.bool p, .bool c, .bool b, .bool n, .bool x]] w (RetB w (chgN pg off na nb c b)):=by
 have HO:=hide (And.intro ho ho2)
 clear ho ho2
 cases c with
 | false=>
  by_cases h0:pg=0
  ·have yh0:(pg==0)=true:=by simp [h0]
   by_cases h1:off=0
   ·have yh1:(off==0)=true:=by simp [h1]
    by_cases h2:na=0
    ·have yh2:((na:Int)==0)=true:=by simp [h2]
     by_cases h3:nb=0
     ·have yh3:((nb:Int)==0)=true:=by simp [h3]
      have HV:chgN pg off na nb false b=true:=by simp [chgN,h0,h1,h2,h3]
      rw [HV]
      clear HV
      go_enter Tryz.func136,Tryz.ntmps136
      go_wp2
      go_ret
      exact ⟨rfl,(Ext.alloc _ _).trans (Ext.alloc _ _)⟩
     ·have yh3:((nb:Int)==0)=false:=by simp [h3]
      have HV:chgN pg off na nb false b=false:=by simp [chgN,h0,h1,h2,h3]
      rw [HV]
      clear HV
      go_enter Tryz.func136,Tryz.ntmps136
      go_wp2
      go_ret
      exact ⟨rfl,(Ext.alloc _ _).trans (Ext.alloc _ _)⟩
    ·have yh2:((na:Int)==0)=false:=by simp [h2]
     have HV:chgN pg off na nb false b=false:=by simp [chgN,h0,h1,h2]
     rw [HV]
     clear HV
     go_enter Tryz.func136,Tryz.ntmps136
     go_wp2
     go_ret
     exact ⟨rfl,(Ext.alloc _ _).trans (Ext.alloc _ _)⟩
   ·have yh1:(off==0)=false:=by simp [h1]
    have HV:chgN pg off na nb false b=false:=by simp [chgN,h0,h1]
    rw [HV]
    clear HV
    go_enter Tryz.func136,Tryz.ntmps136
    go_wp2
    go_ret
    exact ⟨rfl,(Ext.alloc _ _).trans (Ext.alloc _ _)⟩
  ·have yh0:(pg==0)=false:=by simp [h0]
   have HV:chgN pg off na nb false b=false:=by simp [chgN,h0]
   rw [HV]
   clear HV
   go_enter Tryz.func136,Tryz.ntmps136
   go_wp2
   go_ret
   exact ⟨rfl,(Ext.alloc _ _).trans (Ext.alloc _ _)⟩
 | true=>
  obtain ⟨q,HQ⟩:∃q,Hid (isPg pg=q):=⟨_,hide rfl⟩
  have KP:=hide (fun (W:World)=>(show Calls Tryz.prog 155 #[.int .i64 pg] W (fun e w' =>e= .returned (.bool q)∧w' =W) from by have h:=isPage_any pg W;rw [HQ.out] at h;exact h))
  obtain ⟨m,HM⟩:∃m:Nat,Hid ((if b then na else 0)=m):=⟨_,hide rfl⟩
  have hm:m≤140737488351232:=by rw [← HM.out];split <;> omega
  by_cases h0:q=true
  ·subst h0
   by_cases h1:1≤na
   ·have h1i:(1:Int)≤(na:Int):=by omega
    by_cases h2:nb=m
    ·have h2i:((nb:Int)==(m:Int))=true:=by simp [h2]
     by_cases h3:0≤off
     ·by_cases h4:off≤512 - (na:Int)
      ·have HV:chgN pg off na nb true b=true:=by
        have hq:=HQ.out
        have hm2:=HM.out
        simp only [chgN,if_true,hq,hm2]
        simp [h1,h2,h3,h4] <;> omega
       rw [HV]
       clear HV
       cases b with
       | false=>
        obtain rfl:m=0:=HM.out.symm
        go_enter Tryz.func136,Tryz.ntmps136
        go_wp2_with (go_at_call 155;(with_reducible refine (KP.out _).mono ?_);rintro e w2 ⟨rfl,rfl⟩)
        go_ret
        exact ⟨rfl,(Ext.alloc _ _).trans (Ext.alloc _ _)⟩
       | true=>
        obtain rfl:na=m:=HM.out
        go_enter Tryz.func136,Tryz.ntmps136
        go_wp2_with (go_at_call 155;(with_reducible refine (KP.out _).mono ?_);rintro e w2 ⟨rfl,rfl⟩)
        go_ret
        exact ⟨rfl,(Ext.alloc _ _).trans (Ext.alloc _ _)⟩
      ·have h4i:decide (off≤512 - (na:Int))=false:=decide_eq_false h4
       have HV:chgN pg off na nb true b=false:=by
        have hq:=HQ.out
        have hm2:=HM.out
        simp only [chgN,if_true,hq,hm2]
        simp [h1,h2,h3,h4] <;> omega
       rw [HV]
       clear HV
       cases b with
       | false=>
        obtain rfl:m=0:=HM.out.symm
        go_enter Tryz.func136,Tryz.ntmps136
        go_wp2_with (go_at_call 155;(with_reducible refine (KP.out _).mono ?_);rintro e w2 ⟨rfl,rfl⟩)
        go_ret
        exact ⟨rfl,(Ext.alloc _ _).trans (Ext.alloc _ _)⟩
       | true=>
        obtain rfl:na=m:=HM.out
        go_enter Tryz.func136,Tryz.ntmps136
        go_wp2_with (go_at_call 155;(with_reducible refine (KP.out _).mono ?_);rintro e w2 ⟨rfl,rfl⟩)
        go_ret
        exact ⟨rfl,(Ext.alloc _ _).trans (Ext.alloc _ _)⟩
     ·have h3i:decide (0≤off)=false:=decide_eq_false h3
      have HV:chgN pg off na nb true b=false:=by
       have hq:=HQ.out
       have hm2:=HM.out
       simp only [chgN,if_true,hq,hm2]
       simp [h1,h2,h3] <;> omega
      rw [HV]
      clear HV
      cases b with
      | false=>
       obtain rfl:m=0:=HM.out.symm
       go_enter Tryz.func136,Tryz.ntmps136
       go_wp2_with (go_at_call 155;(with_reducible refine (KP.out _).mono ?_);rintro e w2 ⟨rfl,rfl⟩)
       go_ret
       exact ⟨rfl,(Ext.alloc _ _).trans (Ext.alloc _ _)⟩
      | true=>
       obtain rfl:na=m:=HM.out
       go_enter Tryz.func136,Tryz.ntmps136
       go_wp2_with (go_at_call 155;(with_reducible refine (KP.out _).mono ?_);rintro e w2 ⟨rfl,rfl⟩)
       go_ret
       exact ⟨rfl,(Ext.alloc _ _).trans (Ext.alloc _ _)⟩
    ·have h2i:((nb:Int)==(m:Int))=false:=by simp;omega
     have HV:chgN pg off na nb true b=false:=by
      have hq:=HQ.out
      have hm2:=HM.out
      simp only [chgN,if_true,hq,hm2]
      simp [h1,h2] <;> omega
     rw [HV]
     clear HV
     cases b with
     | false=>
      obtain rfl:m=0:=HM.out.symm
      go_enter Tryz.func136,Tryz.ntmps136
      go_wp2_with (go_at_call 155;(with_reducible refine (KP.out _).mono ?_);rintro e w2 ⟨rfl,rfl⟩)
      go_ret
      exact ⟨rfl,(Ext.alloc _ _).trans (Ext.alloc _ _)⟩
     | true=>
      obtain rfl:na=m:=HM.out
      go_enter Tryz.func136,Tryz.ntmps136
      go_wp2_with (go_at_call 155;(with_reducible refine (KP.out _).mono ?_);rintro e w2 ⟨rfl,rfl⟩)
      go_ret
      exact ⟨rfl,(Ext.alloc _ _).trans (Ext.alloc _ _)⟩
   ·have h1i:decide ((1:Int)≤(na:Int))=false:=by simp;omega
    have HV:chgN pg off na nb true b=false:=by
     have hq:=HQ.out
     have hm2:=HM.out
     simp only [chgN,if_true,hq,hm2]
     simp [h1] <;> omega
    rw [HV]
    clear HV
    cases b with
    | false=>
     obtain rfl:m=0:=HM.out.symm
     go_enter Tryz.func136,Tryz.ntmps136
     go_wp2_with (go_at_call 155;(with_reducible refine (KP.out _).mono ?_);rintro e w2 ⟨rfl,rfl⟩)
     go_ret
     exact ⟨rfl,(Ext.alloc _ _).trans (Ext.alloc _ _)⟩
    | true=>
     obtain rfl:na=m:=HM.out
     go_enter Tryz.func136,Tryz.ntmps136
     go_wp2_with (go_at_call 155;(with_reducible refine (KP.out _).mono ?_);rintro e w2 ⟨rfl,rfl⟩)
     go_ret
     exact ⟨rfl,(Ext.alloc _ _).trans (Ext.alloc _ _)⟩
  ·have h0:q=false:=by simpa using h0
   subst h0
   have HV:chgN pg off na nb true b=false:=by
    have hq:=HQ.out
    have hm2:=HM.out
    simp only [chgN,if_true,hq,hm2]
    simp
   rw [HV]
   clear HV
   cases b with
   | false=>
    obtain rfl:m=0:=HM.out.symm
    go_enter Tryz.func136,Tryz.ntmps136
    go_wp2_with (go_at_call 155;(with_reducible refine (KP.out _).mono ?_);rintro e w2 ⟨rfl,rfl⟩)
    go_ret
    exact ⟨rfl,(Ext.alloc _ _).trans (Ext.alloc _ _)⟩
   | true=>
    obtain rfl:na=m:=HM.out
    go_enter Tryz.func136,Tryz.ntmps136
    go_wp2_with (go_at_call 155;(with_reducible refine (KP.out _).mono ?_);rintro e w2 ⟨rfl,rfl⟩)
    go_ret
    exact ⟨rfl,(Ext.alloc _ _).trans (Ext.alloc _ _)⟩
def chkN (L:List (Int×Int)) (nd:Nat) (op x:Bool):Bool:=if x then decide (nd≤64) && risB (-1) L else (nd==0) && !op
def LastP (L:List (Int×Int)) (i:Nat) (last:Int):Prop:=(i=0∧last= -1)∨(0 < i∧0≤last∧∃e,L[i - 1]? =some e∧e.1=last)
theorem risB_at {L:List (Int×Int)} {i:Nat} {d:Int×Int} (h:L[i]? =some d) (last:Int):risB last (L.drop i)=(decide (last < d.1) && (decide (d.1 < 4096) && risB d.1 (L.drop (i + 1)))):=by
 obtain ⟨hl,he⟩:=List.getElem?_eq_some_iff.1 h
 rw [List.drop_eq_getElem_cons hl,he]
 rfl
theorem checkFits_any (k tx pv pg off nx:Int) (A B D:Option Addr) (nb a na b' nd d:Nat) (op:Bool) (p c b n x:Bool) (w:World) (L:List (Int×Int)) (hr:RdD w D L) (hn:L.length=nd) (hnd:nd≤140737488351232):
  Calls Tryz.prog 137 #[.agg #[.int .u8 k, .int .u64 tx, .int .u64 pv, .int .i64 pg, .int .i64 off, .slice A nb a, .slice B na b', .int .u64 nx, .slice D nd d, .bool op], .agg #[.bool p, .bool c, .bool b, .bool n, .bool x]] w (RetB w (chkN L nd op x)):=by
 have HR:=hide hr
 have HN:=hide hn
 clear hr hn
 cases x with
 | false=>
  by_cases h0:nd=0
  ·have yh0:((nd:Int)==0)=true:=by simp [h0]
   by_cases h1:op=false
   ·subst h1
    have HV:chkN L nd false false=true:=by simp [chkN,h0]
    rw [HV]
    clear HV
    go_enter Tryz.func137,Tryz.ntmps137
    go_wp2
    go_ret
    exact ⟨rfl,(Ext.alloc _ _).trans (Ext.alloc _ _)⟩
   ·have h1:op=true:=by simpa using h1
    subst h1
    have HV:chkN L nd true false=false:=by simp [chkN,h0]
    rw [HV]
    clear HV
    go_enter Tryz.func137,Tryz.ntmps137
    go_wp2
    go_ret
    exact ⟨rfl,(Ext.alloc _ _).trans (Ext.alloc _ _)⟩
  ·have yh0:((nd:Int)==0)=false:=by simp [h0]
   have HV:chkN L nd op false=false:=by simp [chkN,h0]
   rw [HV]
   clear HV
   go_enter Tryz.func137,Tryz.ntmps137
   go_wp2
   go_ret
   exact ⟨rfl,(Ext.alloc _ _).trans (Ext.alloc _ _)⟩
 | true=>
  by_cases h0:nd≤64
  ·have h0i:¬(64:Int) < (nd:Int):=by omega
   have HV:chkN L nd op true=risB (-1) L:=by simp [chkN,h0]
   rw [HV]
   clear HV
   go_enter Tryz.func137,Tryz.ntmps137
   go_upto_region 6 with fail
   obtain ⟨W1,hX1,hR1,hg⟩:∃W1,Ext w W1∧Rw W1 w.heap.size 95 [.int .u8 k, .int .u64 tx, .int .u64 pv, .int .i64 pg, .int .i64 off, .slice A nb a, .slice B na b', .int .u64 nx, .slice D nd d, .bool op]∧(w.alloc (.cells #[.int .u8 k, .int .u64 tx, .int .u64 pv, .int .i64 pg, .int .i64 off, .slice A nb a, .slice B na b', .int .u64 nx, .slice D nd d, .bool op] 95)).alloc (.cells #[.bool p, .bool c, .bool b, .bool n, .bool true] 162)=W1:=⟨_,(Ext.alloc _ _).trans (Ext.alloc _ _),(Rw.new w 95 [.int .u8 k, .int .u64 tx, .int .u64 pv, .int .i64 pg, .int .i64 off, .slice A nb a, .slice B na b', .int .u64 nx, .slice D nd d, .bool op]).ext (Ext.alloc _ _),rfl⟩
   rw [hg]
   obtain ⟨hb,HHB⟩:∃hb,Hid (w.heap.size=hb):=⟨_,hide rfl⟩
   rw [HHB.out] at hR1
   try rw [HHB.out]
   have X1:=hide hX1
   have R1:=hide hR1
   clear hg hX1 hR1
   go_loopw [26] (fun iv wr=>∃(i:Nat) (last:Int),i≤nd∧iv= .int .i64 (i:Int)∧Hid (risB (-1) L=risB last (L.drop i))∧Hid (LastP L i last)∧Hid (Ext w wr)∧Hid (Rw wr hb 95 [.int .u8 k, .int .u64 tx, .int .u64 pv, .int .i64 pg, .int .i64 off, .slice A nb a, .slice B na b', .int .u64 nx, .slice D nd d, .bool op])) (fun iv _=>nd - (intOf iv).toNat)
   case atStart=>exact ⟨0,-1,Nat.zero_le _,rfl,hide rfl,hide (.inl ⟨rfl,rfl⟩),X1,R1⟩
   case round=>
    obtain ⟨i,last,hi,rfl,HB,HLP,HX,HRB⟩:=hrel
    clear X1 R1
    by_cases hlt:i < nd
    ·obtain ⟨⟨y,z⟩,he⟩:∃e,L[i]? =some e:=⟨_,List.getElem?_eq_getElem (by rw [HN.out];exact hlt)⟩
     obtain ⟨bb,oo,hD,k1,k2⟩:=(HR.out.ext HX.out).at he
     subst hD
     have HSTEP:=hide (risB_at he last)
     have HE:=hide he
     obtain ⟨q,HQ⟩:∃q,Hid (isPg y=q):=⟨_,hide rfl⟩
     have KP:=hide (fun (W:World)=>(show Calls Tryz.prog 155 #[.int .i64 y] W (fun e w' =>e= .returned (.bool q)∧w' =W) from by have h:=isPage_any y W;rw [HQ.out] at h;exact h))
     have hii:(i:Int) < (nd:Int):=by omega
     have hi0:(0:Int)≤(i:Int):=by omega
     have hib:(i:Int)≤64:=by omega
     clear he
     go_upto_region 8 with fail
     obtain ⟨W8,hX8,hR8,hg⟩:∃W8,Ext wr W8∧Rw W8 wr.heap.size 136 [.int .i64 y, .int .u64 z]∧wr.alloc (.cells #[.int .i64 y, .int .u64 z] 136)=W8:=⟨_,Ext.alloc _ _,Rw.new _ _ _,rfl⟩
     rw [hg]
     obtain ⟨h8,HH8⟩:∃h8,Hid (wr.heap.size=h8):=⟨_,hide rfl⟩
     rw [HH8.out] at hR8 ⊢
     have X8:=hide (HX.out.trans hX8)
     have RB8:=hide (HRB.out.ext hX8)
     have d0:=hR8.cell (i:=0) rfl
     have f8:=RB8.out.cell (i:=8) rfl
     clear hg hX8 hR8 HX HRB k1 k2
     cases q with
     | false=>
      have HF:Hid (risB (-1) L=false):=hide (by
       rw [HB.out,HSTEP.out]
       have hq:=HQ.out
       have hl:=HLP.out
       have hge: -1≤last:=by rcases hl with ⟨_,h⟩ | ⟨_,h,_⟩ <;> omega
       simp only [isPg,Bool.and_eq_false_iff,decide_eq_false_iff_not] at hq
       simp only [Bool.and_eq_false_iff,decide_eq_false_iff_not]
       omega)
      go_quiet ((go_at_call 155;exact Calls.quiet_of_same (KP.out _)))
      go_wp2
      go_ret
      exact ⟨by rw [HF.out];rfl,X8.out.drewN nq⟩
     | true=>
      have hpg:0≤y∧y < 4096:=by have hq:=HQ.out;simpa [isPg] using hq
      by_cases hiz:i=0
      ·have hd:decide ((0:Int) < (i:Int))=false:=by simp;omega
       have hdn:decide (0 < i)=false:=by simp;omega
       have HBN:Hid (risB (-1) L=risB y (L.drop (i + 1))):=hide (by
        rw [HB.out,HSTEP.out]
        have hl:last= -1:=by rcases HLP.out with ⟨_,h⟩ | ⟨h,_⟩ <;> omega
        simp only [hl]
        have e1:decide (-1 < y)=true:=by simp;omega
        have e2:decide (y < 4096)=true:=by simp;omega
        rw [e1,e2];rfl)
       have HIZ:=hide hiz
       clear hiz
       go_quiet ((go_at_call 155;exact Calls.quiet_of_same (KP.out _)))
       go_wp2
       refine ⟨⟨i + 1,y,by omega,by go_num,HBN,hide (.inr ⟨Nat.succ_pos _,hpg.1,_,HE.out,rfl⟩),hide (X8.out.drewN nq),hide (RB8.out.ext ((Ext.refl _).drewN nq))⟩,by simp [intOf];omega⟩
      ·have hd:(0:Int) < (i:Int):=by omega
       have hdn:0 < i:=by omega
       obtain ⟨j,hj⟩:∃j,i=j + 1:=⟨i - 1,by omega⟩
       have hw:IntKind.i64.wrap ((i:Int) - 1)=(j:Int):=by rw [IntKind.wrap_i64];omega
       have hw1:(i:Int) - 1=(j:Int):=by omega
       have hj1:(j:Int) < (nd:Int):=by omega
       have hj0:(0:Int)≤(j:Int):=by omega
       obtain ⟨⟨y2,z2⟩,he2,hl2,hge⟩:∃e,L[j]? =some e∧e.1=last∧0≤last:=by
        rcases HLP.out with ⟨h,_⟩ | ⟨_,h2,e,h3,h4⟩
        ·omega
        ·rw [hj] at h3;exact ⟨e,h3,h4,h2⟩
       have hl3:y2=last:=hl2
       obtain ⟨b3,o3,hD3,k3,-⟩:=(HR.out.ext X8.out).at he2
       injection hD3 with hD3
       injection hD3 with hD4 hD5
       subst hD4 hD5
       have HJ:=hide hj
       have HGE:=hide hge
       clear hj hl2 he2 hge
       subst hl3
       by_cases hle:y≤y2
       ·have HF:Hid (risB (-1) L=false):=hide (by
         rw [HB.out,HSTEP.out]
         have e1:decide (y2 < y)=false:=by simp;omega
         simp only [e1,Bool.false_and])
        clear hiz
        go_quiet ((go_at_call 155;exact Calls.quiet_of_same (KP.out _)))
        go_wp2
        go_ret
        exact ⟨by rw [HF.out];rfl,X8.out.drewN nq⟩
       ·have hle2:decide (y≤y2)=false:=decide_eq_false hle
        have HBN:Hid (risB (-1) L=risB y (L.drop (i + 1))):=hide (by
         rw [HB.out,HSTEP.out]
         have e1:decide (y2 < y)=true:=by simp;omega
         have e2:decide (y < 4096)=true:=by simp;omega
         rw [e1,e2];rfl)
        clear hiz hle
        go_quiet ((go_at_call 155;exact Calls.quiet_of_same (KP.out _)))
        go_wp2
        refine ⟨⟨i + 1,y,by omega,by go_num,HBN,hide (.inr ⟨Nat.succ_pos _,hpg.1,_,HE.out,rfl⟩),hide (X8.out.drewN nq),hide (RB8.out.ext ((Ext.refl _).drewN nq))⟩,by simp [intOf];omega⟩
    ·have hii:¬(i:Int) < (nd:Int):=by omega
     have HT:Hid (risB (-1) L=true):=hide (by rw [HB.out,List.drop_of_length_le (by rw [HN.out];omega)];rfl)
     go_wp2
     go_ret
     exact ⟨by rw [HT.out];rfl,HX.out⟩
  ·have h0i:(64:Int) < (nd:Int):=by omega
   have HV:chkN L nd op true=false:=by simp [chkN];omega
   rw [HV]
   clear HV
   go_enter Tryz.func137,Tryz.ntmps137
   go_wp2
   go_ret
   exact ⟨rfl,(Ext.alloc _ _).trans (Ext.alloc _ _)⟩
end Go.Proofs.YthmdmgnhfhpcaaaGreatDoor
