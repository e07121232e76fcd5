/-
  What the card wants, part 9: LgCx, LgRq, RcR, RcQ, RcW, RcX0, RcX1, RcX2.
-/
import Derived.Deep.RegionHeld3
import Derived.Deep.RegionLaw
import Derived.Test.YthmdmgnhfhpcaaaGreatDoorPkCardSvE3
import Derived.Test.YthmdmgnhfhpcaaaGreatDoorPkCardSvE6
import Derived.Test.YthmdmgnhfhpcaaaGreatDoorPkCardSvE8
set_option linter.unusedVariables false
set_option linter.unusedSimpArgs false
set_option maxRecDepth 20000
set_option maxHeartbeats 12800000
namespace Go.Proofs.YthmdmgnhfhpcaaaGreatDoor
open Go.RowKit
def cutL (L:Lg) (H:List UInt8) (e:Nat):Lg:=⟨L.at_,L.hd,e,(H.take e).drop (flo e),0⟩
section
variable {D D2:Dk} {L L2:Lg} {H S:List UInt8} {ep:Nat→Nat} {n:Nat}
structure Mx (D D2:Dk) (L:Lg):Prop where
 awk:Awk D2
 pen:D2.pen= []
 bd:Bd D2
 len:D2.dur.length=D.dur.length
 mix:∀s,s < D.dur.length→D2.at s=D.at s∨∃i,480 * i < L.tail.length∧s=secOf L (flA L i)∧D2.at s=flP L i
def NewP (D2:Dk) (L:Lg) (j:Nat):Prop:=∃i,j=L.sure / 480 + i∧480 * i < L.tail.length∧D2.at (secOf L (480 * j))=flP L i
theorem NewP.prt (h:Rg D L H) (m:Mx D D2 L) {j:Nat} (hn:NewP D2 L j):Prt D2 L j L.hd.ep ((H.drop (480 * j)).take 480):=by
 obtain ⟨i,rfl,hi,hb⟩:=hn
 have hfl:flo L.sure=480 * (L.sure / 480):=by unfold flo;omega
 have e6:(L.tail.drop (480 * i)).take 480=(H.drop (480 * (L.sure / 480 + i))).take 480:=by
  rw [h.tail,List.drop_drop,hfl]
  congr 2
  omega
 have hlt:L.tail.length=H.length - flo L.sure:=by rw [h.tail,List.length_drop]
 refine Prt.of_seal (L:=L) m.awk.1 (by rw [m.len];exact (h.sec _).1) ?_ (by rw [List.length_take];omega) (by have:=h.big;omega) h.hd.ep
 rw [hb]
 unfold flP partB
 rw [e6,flA_part,show 480 * (L.sure / 480 + i) / 480=L.sure / 480 + i by omega]
theorem Mx.old (h:Rg D L H) (m:Mx D D2 L) {j:Nat} (hn:¬NewP D2 L j) (ht:ptThere D2 L (480 * j)=true):D2.at (secOf L (480 * j))=D.at (secOf L (480 * j)):=by
 rcases m.mix (secOf L (480 * j)) (h.sec _).1 with h1 | ⟨i,hi,hs,hb⟩
 ·exact h1
 ·exfalso
  have hbg:=h.big
  have hsu:=h.sure
  have hfl:flo L.sure=480 * (L.sure / 480):=by unfold flo;omega
  have hlt:L.tail.length=H.length - flo L.sure:=by rw [h.tail,List.length_drop]
  obtain ⟨p1,p2⟩:=ptAt_seal (D:=D2) m.awk.1 (i:=secOf L (480 * j)) (by rw [m.len];exact (h.sec _).1) (flA L i / 480) L.hd.ep ((L.tail.drop (480 * i)).take 480) hb (by rw [List.length_take];omega) (by rw [flA_part];omega) h.hd.ep
  unfold ptThere at ht
  rw [p1,p2] at ht
  simp only [Bool.true_and,decide_eq_true_eq] at ht
  rw [flA_part] at ht
  have hj:j=L.sure / 480 + i:=by omega
  exact hn ⟨i,hj,hi,hb⟩
theorem Mx.thereOld (h:Rg D L H) (m:Mx D D2 L) {j:Nat} (hn:¬NewP D2 L j) (ht:ptThere D2 L (480 * j)=true):ptThere D L (480 * j)=true∧ptAt D2 (secOf L (480 * j))=ptAt D (secOf L (480 * j)):=by
 obtain ⟨e1,e2⟩:=there_same (L2:=L) h.on m.awk.1 m.len rfl rfl (h.sec (480 * j)).1 (m.old h hn ht)
 exact ⟨e1▸ht,e2⟩
theorem Mx.before (h:Rg D L H) (m:Mx D D2 L) {j:Nat} (h1:L.hd.fi / 480≤j) (h2:j < L.sure / 480):D2.at (secOf L (480 * j))=D.at (secOf L (480 * j)):=by
 rcases m.mix (secOf L (480 * j)) (h.sec _).1 with h3 | ⟨i,hi,hs,hb⟩
 ·exact h3
 ·exfalso
  have hlt:L.tail.length=H.length - flo L.sure:=by rw [h.tail,List.length_drop]
  have hri:=h.ring
  have hfs:=h.fs
  have hfl:flo L.sure=480 * (L.sure / 480):=by unfold flo;omega
  have hsu:=h.sure
  rw [flA_part] at hs
  exact lsec_far (L:=L) (a:=j) (b:=L.sure / 480 + i) (by omega) (by omega) (by omega) hs
theorem Mx.read (h:Rg D L H) (hd:Dur D L (H.take L.sure) ep) (m:Mx D D2 L):∀(f i:Nat) (e:Int),(i=0∧e=(thr L ep (L.sure / 480):Int)∨0 < i∧e=(L.hd.ep:Int))→480 * (L.sure / 480 + i)≤H.length→H.length≤480 * (L.sure / 480 + i + f)→
  ∃x,L.sure≤x∧480 * (L.sure / 480 + i)≤x∧x≤H.length∧thP D2 L f (480 * (L.sure / 480 + i)) e=(H.take x).drop (480 * (L.sure / 480 + i))∧∀i',i≤i'→480 * (L.sure / 480 + i') + 480≤x→NewP D2 L (L.sure / 480 + i')
 | 0,i,e,he,h1,h2=>by
  have hsu:=h.sure
  refine ⟨H.length,hsu,h1,Nat.le_refl _, ?_,fun i' h3 h4=>by omega⟩
  rw [List.take_length,List.drop_of_length_le (by omega)]
  rfl
 | f + 1,i,e,he,h1,h2=>by
  have hsu:=h.sure
  have htk:(H.take L.sure).length=L.sure:=by rw [List.length_take];omega
  obtain ⟨T,hT⟩:∃T,L.sure / 480=T:=⟨_,rfl⟩
  rw [hT] at he h1 h2 ⊢
  have hthr:thr L ep T≤L.hd.ep:=by
   unfold thr
   split
   ·exact (hd.old _).2
   ·exact Nat.le_trans (hd.old 0).1 (hd.old 0).2
  have hee:e≤(L.hd.ep:Int):=by
   rcases he with ⟨-,rfl⟩ | ⟨-,rfl⟩
   ·exact Int.ofNat_le.2 hthr
   ·exact Int.le_refl _
  by_cases hN:NewP D2 L (T + i)
  ·have hp:=NewP.prt h m hN
   have hl:((H.drop (480 * (T + i))).take 480).length=min 480 (H.length - 480 * (T + i)):=by rw [List.length_take,List.length_drop]
   have hst:thP D2 L (f + 1) (480 * (T + i)) e=if min 480 (H.length - 480 * (T + i)) < 480 then (H.drop (480 * (T + i))).take 480 else (H.drop (480 * (T + i))).take 480 ++ thP D2 L f (480 * (T + i) + 480) (L.hd.ep:Int):=by
    show (if ptThere D2 L (480 * (T + i))=true∧¬(ptAt D2 (secOf L (480 * (T + i)))).ep < e then (if (ptAt D2 (secOf L (480 * (T + i)))).by_.length < 480 then (ptAt D2 (secOf L (480 * (T + i)))).by_ else (ptAt D2 (secOf L (480 * (T + i)))).by_ ++ thP D2 L f (480 * (T + i) + 480) (ptAt D2 (secOf L (480 * (T + i)))).ep) else [])=_
    rw [hp.there,hp.ep,hp.by_,if_pos ⟨rfl,by omega⟩,hl]
   rw [hst]
   by_cases hsh:H.length < 480 * (T + i) + 480
   ·rw [if_pos (by omega)]
    refine ⟨H.length,hsu,h1,Nat.le_refl _, ?_,fun i' h3 h4=>by omega⟩
    rw [List.take_length,List.take_of_length_le (by rw [List.length_drop];omega)]
   ·rw [if_neg (by omega)]
    obtain ⟨x,x1,x2,x3,x4,x5⟩:=Mx.read h hd m f (i + 1) (L.hd.ep:Int) (.inr ⟨by omega,rfl⟩) (by rw [hT];omega) (by rw [hT];omega)
    rw [hT] at x2 x4 x5
    refine ⟨x,x1,by omega,x3, ?_,fun i' h3 h4=> ?_⟩
    ·rw [show 480 * (T + i) + 480=480 * (T + (i + 1)) by omega,x4]
     have e1:(H.drop (480 * (T + i))).take 480=((H.take x).drop (480 * (T + i))).take 480:=by
      rw [List.drop_take,List.take_take,Nat.min_eq_left (by omega)]
     rw [e1,show 480 * (T + (i + 1))=480 * (T + i) + 480 by omega,← List.drop_drop,List.take_append_drop]
    ·rcases Nat.lt_or_ge i i' with h5 | h5
     ·exact x5 i' h5 h4
     ·obtain rfl:i' =i:=by omega
      exact hN
  ·-- the reading ends here
   have hx0:∀x0,L.sure≤x0→480 * (T + i)≤x0→(x0=L.sure∨x0=480 * (T + i))→(∀i',i≤i'→480 * (T + i') + 480≤x0→NewP D2 L (T + i')):=fun x0 a1 a2 a3 i' a4 a5=>by
    exfalso
    rcases a3 with rfl | rfl <;> omega
   have hunf:thP D2 L (f + 1) (480 * (T + i)) e=if ptThere D2 L (480 * (T + i))=true∧¬(ptAt D2 (secOf L (480 * (T + i)))).ep < e then (if (ptAt D2 (secOf L (480 * (T + i)))).by_.length < 480 then (ptAt D2 (secOf L (480 * (T + i)))).by_ else (ptAt D2 (secOf L (480 * (T + i)))).by_ ++ thP D2 L f (480 * (T + i) + 480) (ptAt D2 (secOf L (480 * (T + i)))).ep) else []:=rfl
   by_cases hb:i=0∧¬L.sure % 480=0
   ·obtain ⟨rfl,hb⟩:=hb
    have hp:=hd.part T (by rw [← hT];exact Nat.div_le_div_right h.st.2.2) (by rw [htk];omega)
    have hl:=hd.last (by rw [htk];exact hb)
    rw [htk,hT] at hl
    rw [hl] at hp
    have hat:D2.at (secOf L (480 * T))=D.at (secOf L (480 * T)):=by
     rcases m.mix (secOf L (480 * T)) (h.sec _).1 with h3 | ⟨i2,hi2,hs2,hb2⟩
     ·exact h3
     ·exfalso
      have htl:=h.tail_len
      have hlt:L.tail.length=H.length - flo L.sure:=by rw [h.tail,List.length_drop]
      rw [flA_part,hT] at hs2
      rcases Nat.eq_zero_or_pos i2 with rfl | hpos
      ·exact hN ⟨0,by rw [hT],hi2,hb2⟩
      ·exact lsec_far (L:=L) (a:=T) (b:=T + i2) (by omega) (by omega) (by omega) hs2
    have hp2:=hp.same (L2:=L) h.on m.awk.1 m.len rfl rfl (h.sec _).1 hat
    have hby:((H.take L.sure).drop (480 * T)).take 480=(H.take L.sure).drop (480 * T):=List.take_of_length_le (by rw [List.length_drop,htk];omega)
    rw [hby] at hp2
    refine ⟨L.sure,Nat.le_refl _,by omega,hsu, ?_,hx0 L.sure (Nat.le_refl _) (by omega) (.inl rfl)⟩
    rw [hunf,Nat.add_zero,hp2.there,hp2.ep,hp2.by_,if_pos ⟨rfl,by omega⟩,if_pos (by rw [List.length_drop,htk];omega)]
   ·have hge:L.sure≤480 * (T + i):=by omega
    have hnil:thP D2 L (f + 1) (480 * (T + i)) e= []:=by
     rw [hunf]
     by_cases hth:ptThere D2 L (480 * (T + i))=true
     ·obtain ⟨t1,t2⟩:=m.thereOld h hN hth
      rw [t2]
      by_cases hi0:i=0
      ·subst hi0
       have he1:e=(thr L ep T:Int):=by
        rcases he with ⟨-,h5⟩ | ⟨h5,-⟩
        ·exact h5
        ·omega
       rcases hd.stop (T + 0) (by rw [htk];omega) t1 with q | q
       ·rw [q]
        split
        ·rfl
        ·rfl
       ·rw [if_neg]
        rintro ⟨-,h6⟩
        rw [he1] at h6
        exact h6 q
      ·have he1:e=(L.hd.ep:Int):=by
        rcases he with ⟨h5,-⟩ | ⟨-,h5⟩
        ·omega
        ·exact h5
       rcases hd.stale (T + i) (by rw [htk];exact hge) t1 with q | ⟨-,q,-⟩
       ·rw [if_neg]
        rintro ⟨-,h6⟩
        rw [he1] at h6
        exact h6 q
       ·rw [htk] at q
        omega
     ·rw [if_neg (fun h6=>hth h6.1)]
    rw [hnil]
    refine ⟨480 * (T + i),hge,Nat.le_refl _,h1, ?_,hx0 _ hge (Nat.le_refl _) (.inr rfl)⟩
    rw [List.drop_of_length_le (by rw [List.length_take];omega)]
/-- Behind such a fall an opening finds all that was sure, and some of the next records. -/
theorem Mx.fal (h:Rg D L H) (m:Mx D D2 L) (rsS rsM:List (List UInt8)) (hr:∀p∈rsS ++ rsM,RecOk p) (hH:H.drop L.hd.fi=recsB (rsS ++ rsM)) (hsr:L.sure=L.hd.fi + (recsB rsS).length):
  ∃pre post,rsM=pre ++ post∧Fal D2 (cutL L H (L.sure + (recsB pre).length)) (H.take (L.sure + (recsB pre).length)):=by
 obtain ⟨ep,hd⟩:=h.dur
 have hsu:=h.sure
 have hst:=h.st
 have hfs:=h.fs
 have hri:=h.ring
 have hcn:=h.cn
 have htk:(H.take L.sure).length=L.sure:=by rw [List.length_take];omega
 obtain ⟨T,hT⟩:∃T,L.sure / 480=T:=⟨_,rfl⟩
 obtain ⟨a,ha⟩:∃a,L.hd.fi / 480=a:=⟨_,rfl⟩
 have haT:a≤T:=by rw [← ha,← hT];exact Nat.div_le_div_right hst.2.2
 have hrl:(recsB rsS).length + (recsB rsM).length=H.length - L.hd.fi:=by rw [← List.length_append,← recsB_app,← hH,List.length_drop]
 rw [← hfs,ha] at hri
 have hbef:∀j,a≤j→j < T→Prt D2 L j (ep j) ((H.drop (480 * j)).take 480):=fun j h1 h2=>by
  have hp:=hd.part j (by rw [ha];exact h1) (by rw [htk];omega)
  have e5:((H.take L.sure).drop (480 * j)).take 480=(H.drop (480 * j)).take 480:=by
   rw [List.drop_take,List.take_take,Nat.min_eq_left (by omega)]
  rw [e5] at hp
  exact hp.same (L2:=L) h.on m.awk.1 m.len rfl rfl (h.sec _).1 (m.before h (by rw [ha];exact h1) (by rw [hT];exact h2))
 have hfull:=thP_full (S:=H) hbef hd.mono (by omega) (T - a) a (L.hd.cn + 1) (L.hd.old:Int) (Nat.le_refl _) (by omega) (by omega) (.inr (Int.ofNat_le.2 (hd.old a).1))
 have hthr:(if T - a=0 then (L.hd.old:Int) else (ep (T - 1):Int))=(thr L ep T:Int):=by
  unfold thr
  rw [ha]
  by_cases h1:T - a=0
  ·rw [if_pos h1,if_neg (by omega)]
  ·rw [if_neg h1,if_pos (by omega)]
 rw [hthr] at hfull
 obtain ⟨x,x1,x2,x3,x4,x5⟩:=m.read h hd (L.hd.cn + 1 - (T - a)) 0 (thr L ep T:Int) (.inl ⟨rfl,by rw [hT]⟩) (by rw [hT];omega) (by rw [hT];omega)
 simp only [hT,Nat.add_zero] at x2 x4
 rw [hT] at x5
 rw [x4] at hfull
 have hall:thP D2 L (L.hd.cn + 1) (480 * a) (L.hd.old:Int)=(H.take x).drop (480 * a):=by
  rw [hfull]
  have e1:(H.drop (480 * a)).take (480 * (T - a))=((H.take x).drop (480 * a)).take (480 * (T - a)):=by
   rw [List.drop_take,List.take_take,Nat.min_eq_left (by omega)]
  rw [e1,show 480 * T=480 * a + 480 * (T - a) by omega,← List.drop_drop,List.take_append_drop]
 obtain ⟨pre,post,c1,c2,c3⟩:=recs_cut rsM (x - L.sure) (fun p hp=>hr p (by simp [hp])) (by omega)
 refine ⟨pre,post,c1, ?_⟩
 obtain ⟨e,he⟩:∃e,L.sure + (recsB pre).length=e:=⟨_,rfl⟩
 rw [he]
 have hel:(H.take e).length=e:=by rw [List.length_take];omega
 have hJ:(H.take x).drop e=(recsB post).take (x - L.sure - (recsB pre).length):=by
  rw [List.drop_take]
  have h1:H.drop e=recsB post:=by
   rw [show e=L.hd.fi + ((recsB rsS).length + (recsB pre).length) by omega,← List.drop_drop,hH,c1,← List.append_assoc,recsB_app,recsB_app]
   exact List.drop_left' (by rw [List.length_append])
  rw [h1]
  congr 1
  omega
 have hbg:=h.big
 refine ⟨m.awk,m.pen,m.bd,h.hd,h.cn,by rw [m.len];exact h.at_,rfl,hel.symm, ?_, ?_,rfl, ?_,by rw [hel];omega,h.epo, ?_, ?_,fun j=>if j < T then ep j else L.hd.ep, ?_⟩
 ·rw [hel]
  show 480≤L.hd.st∧L.hd.fi=L.hd.st∧L.hd.fi≤e
  omega
 ·rw [hel]
  show L.hd.ck≤e
  have:=h.ck
  omega
 ·rw [hel]
  show e≤(L.hd.st / 480 + L.hd.cn) * 480
  rw [← hfs,ha]
  omega
 ·show D2.at L.at_=sealB 1 L.hd.ns []
  rw [← h.head]
  rcases m.mix L.at_ (by have:=h.at_;omega) with h1 | ⟨i,-,h1,-⟩
  ·exact h1
  ·exact absurd h1.symm (h.sec _).2
 ·refine ⟨rsS ++ pre,fun p hp=>hr p ?_, ?_⟩
  ·rcases List.mem_append.1 hp with h1 | h1
   ·simp [h1]
   ·rw [c1];simp [h1]
  ·show (H.take e).drop L.hd.fi=_
   rw [List.drop_take,hH,c1,← List.append_assoc,recsB_app (rsS ++ pre)]
   exact List.take_left' (by rw [recsB_app,List.length_append];omega)
 ·have hfi:(cutL L H e).hd.fi=L.hd.fi:=rfl
  refine ⟨fun j k1 k2=> ?_,fun j k hjk=> ?_,fun j=> ?_,⟨(H.take x).drop e, ?_, ?_⟩,fun j k1 k2=> ?_⟩
  ·rw [hfi,ha] at k1
   rw [hel] at k2
   have e5:((H.take e).drop (480 * j)).take 480=(H.drop (480 * j)).take 480:=by
    rw [List.drop_take,List.take_take,Nat.min_eq_left (by omega)]
   rw [e5]
   show Prt D2 (cutL L H e) j (if j < T then ep j else L.hd.ep) _
   by_cases hj:j < T
   ·rw [if_pos hj]
    have hp:=hbef j k1 hj
    exact ⟨hp.there,hp.ep,hp.by_⟩
   ·rw [if_neg hj]
    have hn:=x5 (j - T) (Nat.zero_le _) (by omega)
    rw [show T + (j - T)=j by omega] at hn
    have hp:=NewP.prt h m hn
    exact ⟨hp.there,hp.ep,hp.by_⟩
  ·have o1:=(hd.old j).2
   have o2:=hd.mono j k hjk
   show (if j < T then ep j else L.hd.ep)≤(if k < T then ep k else L.hd.ep)
   split
   ·split
    ·exact o2
    ·exact o1
   ·rw [if_neg (by omega)]
    exact Nat.le_refl _
  ·show L.hd.old≤(if j < T then ep j else L.hd.ep)∧(if j < T then ep j else L.hd.ep)≤L.hd.ep
   have o1:=hd.old j
   split
   ·exact o1
   ·exact ⟨Nat.le_trans o1.1 o1.2,Nat.le_refl _⟩
  ·rw [hfi,ha]
   have h1:thP D2 (cutL L H e) (L.hd.cn + 1) (480 * a) (L.hd.old:Int)=thP D2 L (L.hd.cn + 1) (480 * a) (L.hd.old:Int):=thP_log (L:=L) (L2:=cutL L H e) rfl rfl m.awk.1 m.awk.1 rfl (fun a=>by rw [m.len];exact (h.sec a).1) (fun _=>rfl) _ _ _
   show thP D2 (cutL L H e) (L.hd.cn + 1) (480 * a) (L.hd.old:Int)=_
   rw [h1,hall]
   have h2:(H.take e).drop (480 * a)=((H.take x).drop (480 * a)).take (e - 480 * a):=by
    rw [List.drop_take,List.drop_take,List.take_take,Nat.min_eq_left (by omega)]
   have h3:(H.take x).drop e=((H.take x).drop (480 * a)).drop (e - 480 * a):=by
    rw [List.drop_drop,show 480 * a + (e - 480 * a)=e by omega]
   rw [h2,h3,List.take_append_drop]
  ·rw [hJ]
   exact c3
  ·rw [hel] at k1
   left
   show (ptAt D2 (secOf L (480 * j))).ep≤(L.hd.ep:Int)
   have k2:ptThere D2 L (480 * j)=true:=k2
   by_cases hn:NewP D2 L j
   ·rw [(NewP.prt h m hn).ep]
    exact Int.le_refl _
   ·obtain ⟨t1,t2⟩:=m.thereOld h hn k2
    rw [t2]
    by_cases hj:L.sure≤480 * j
    ·rcases hd.stale j (by rw [htk];exact hj) t1 with q | ⟨q,-,-⟩
     ·exact Int.le_of_lt q
     ·exact Int.le_of_eq q
    ·rw [(hd.part j (by rw [ha];omega) (by rw [htk];omega)).ep]
     exact Int.ofNat_le.2 (hd.old j).2
theorem Rg.fal (h:Rg D L H) (rs:List (List UInt8)) (hr:∀p∈rs,RecOk p) (hH:H.drop L.hd.fi=recsB rs) (hs:L.sure=H.length):Fal D L H:=by
 have hst:=h.st
 obtain ⟨pre,post,e1,hf⟩:=Mx.fal (D2:=D) h ⟨h.awk,h.pen,h.bd,rfl,fun _ _=> .inl rfl⟩ rs [] (by rw [List.append_nil];exact hr) (by rw [List.append_nil];exact hH) (by rw [← hH,List.length_drop];omega)
 obtain ⟨rfl,rfl⟩:=List.append_eq_nil_iff.1 e1.symm
 rw [recsB_nil] at hf
 have e2:cutL L H (L.sure + ([]:List UInt8).length)=L:=by
  unfold cutL
  show (⟨L.at_,L.hd,L.sure,(H.take L.sure).drop (flo L.sure),0⟩:Lg)=L
  rw [hs,List.take_length,← hs,← h.tail,← h.held]
 rw [e2] at hf
 have e3:H.take (L.sure + ([]:List UInt8).length)=H:=List.take_of_length_le (by rw [hs];exact Nat.le_add_right _ _)
 rw [e3] at hf
 exact hf
end
section
variable {w0 w w1:World} {X:Bk} {D D':Dk} {L L':Lg} {H:List UInt8}
theorem read_recC (h:LgAt w0 w X D L) (rg:Rg D L H) (x:Nat) (p rest:List UInt8) (hf:L.hd.fi≤x) (hp:RecOk p) (hH:H.drop x=frm p ++ rest) (hT:Tab w0):
  Calls Tryz.prog 104 #[.pointer (some ⟨X.q,0,none⟩), .int .u64 (x:Int)] w (fun e w' =>∃A c,e= .returned (.tuple #[.slice A p.length c, .int .u64 ((x + 2 + p.length:Nat):Int), .int .i64 0])∧Rd w' A p∧Ext w w'∧p.length≤c):=by
 obtain ⟨ep,hd⟩:=rg.dur
 have hlen:H.length - x=2 + p.length + rest.length:=by rw [← List.length_drop,hH,List.length_append,frm_len]
 have b1:=byE_is rg.on hd rg.sure rg.tail x 2 hf (by omega)
 have b2:=byE_is rg.on hd rg.sure rg.tail (x + 2) p.length (by omega) (by omega)
 have e1:byB D L x 2=be2 p.length ++ []:=by
  rw [b1.2,hH]
  unfold frm
  rw [List.append_assoc,List.append_nil]
  exact List.take_left' (be2_length _)
 have e2:byB D L (x + 2) p.length=p:=by
  rw [b2.2,← List.drop_drop,hH]
  unfold frm
  rw [List.append_assoc,List.drop_left' (be2_length _)]
  exact List.take_left' rfl
 have k:=read_at h rg.ok rg.bd rg.on x p.length hp.1 (by rw [rg.end_];omega) hf b1.1 (by rw [e1];exact be2_get _ hp.2 _) b2.1 hT
 rw [e2] at k
 refine k.mono fun e w' hh=> ?_
 obtain ⟨v,he,ho,hx⟩:=hh
 obtain ⟨A,c,rfl,hc,hr⟩:=ho.bytes
 exact ⟨A,c,he,hr,hx,hc⟩
end
def tk (n:Nat) (st:List UInt8×Bool):List UInt8×(List UInt8×Bool):=if st.1.length < n then ([],([],true)) else (st.1.take n,(st.1.drop n,st.2))
structure RdrAt (w0 w:World) (g:Nat) (st:List UInt8×Bool):Prop where
 out:∃A c,Rw w g 174 [.slice A st.1.length c, .bool st.2]∧st.1.length≤c∧((A=none∧st.1= []∧c=0)∨∃b off,A=some ⟨b,off,none⟩∧∀j u,st.1[j]? =some u→w0.cell? ⟨b,off + j,none⟩=some (.int .u8 (u.toNat:Int)))
theorem RdrAt.lt {w0 w:World} {g:Nat} {st:List UInt8×Bool} (h:RdrAt w0 w g st):g < w.heap.size:=by
 obtain ⟨A,c,hr,_⟩:=h.out
 exact hr.lt
theorem RdrAt.same {w0 w w':World} {g:Nat} {st:List UInt8×Bool} (h:RdrAt w0 w g st) (hx:w'.heap[g]? =w.heap[g]?):RdrAt w0 w' g st:=by
 obtain ⟨A,c,hr,hc,ha⟩:=h.out
 exact ⟨A,c,hx.trans hr,hc,ha⟩
theorem RdrAt.ext {w0 w w':World} {g:Nat} {st:List UInt8×Bool} (h:RdrAt w0 w g st) (hx:Ext w w'):RdrAt w0 w' g st:=h.same (hx.block g h.lt)
def RdrP (w0 w:World) (g:Nat) (st:List UInt8×Bool) (S:World→Value→Prop) (e:Ending) (w':World):Prop:=∃v,e= .returned v∧S w' v∧RdrAt w0 w' g st∧w.grownBy w' (some g)
theorem grown_set {w w1:World} {g i:Nat} {v:Value} (h:w.grownBy w1 (some g)):w.grownBy (w1.setCell ⟨g,i,none⟩ v) (some g):=
 ⟨h.os,h.tape,h.output,Nat.le_trans h.size (by simp [World.setCell]),fun k hk hne=>(Below.heap_setCell w1 ⟨g,i,none⟩ v k (fun e=>hne (by rw [e]))).trans (h.block k hk hne)⟩
theorem grown_of_ext {w w':World} (h:Ext w w') (r:Option Nat):w.grownBy w' r:=⟨h.os,h.tape,h.output,h.size,fun k hk _=>h.block k hk⟩
theorem take_any (g n:Nat) (l:List UInt8) (s:Bool) (w0 w:World) (hx:Ext w0 w) (h:RdrAt w0 w g (l,s)) (hl:l.length≤140737488351232):
  Calls Tryz.prog 140 #[.pointer (some ⟨g,0,none⟩), .int .i64 (n:Int)] w (RdrP w0 w g (tk n (l,s)).2 (fun w' v=>Own w' w.heap.size v (tk n (l,s)).1)):=by
 obtain ⟨A,c,hr,hc,ha⟩:=h.out
 have hc:l.length≤c:=hc
 obtain ⟨m,HM⟩:∃m,Hid (l.length=m):=⟨_,hide rfl⟩
 have hr:Rw w g 174 [.slice A l.length c, .bool s]:=hr
 rw [HM.out] at hr hc hl
 have c0:=hr.cell (i:=0) rfl
 have c1:=hr.cell (i:=1) rfl
 have f0:=hr.frozen 0
 have f1:=hr.frozen 1
 have HR:=hide hr
 by_cases hs:m < n
 ·have hsi:(m:Int) < (n:Int):=by omega
  have e:tk n (l,s)=([],([],true)):=by unfold tk;rw [if_pos (by show l.length < n;rw [HM.out];exact hs)]
  rw [e]
  clear e hr h ha hs
  go_enter Tryz.func140,Tryz.ntmps140
  go_wp2
  go_ret
  exact ⟨_,rfl,Own.nil _ _,⟨none,0,(HR.out.set 0 _).set 1 _,Nat.le_refl _, .inl ⟨rfl,rfl,rfl⟩⟩,grown_set (grown_set (grown_of_ext (Ext.refl w) _))⟩
 ·have hsi:¬(m:Int) < (n:Int):=by omega
  have hmn:(n:Int)≤(m:Int):=by omega
  have hnc:(n:Int)≤(c:Int):=by omega
  have hmc:(m:Int)≤(c:Int):=by omega
  have hni:(n:Int)≤140737488351232:=by omega
  have e:tk n (l,s)=(l.take n,(l.drop n,s)):=by unfold tk;rw [if_neg (by show ¬l.length < n;rw [HM.out];exact hs)]
  rw [e]
  clear e
  rcases ha with ⟨rfl,hl0,rfl⟩ | ⟨b,off,rfl,hj⟩
  ·have hl0:l= []:=hl0
   have hm0:m=0:=by rw [← HM.out,hl0];rfl
   obtain rfl:n=0:=by omega
   subst hm0 hl0
   have KC:=hide (fun (W:World)=>clone_any none [] 0 0 W (Rd.nil _ _) rfl (by omega))
   clear hr h c0 c1 f0 f1 hsi hmn hnc hmc hni hs hl hc
   have c0:=HR.out.cell (i:=0) rfl
   have c1:=HR.out.cell (i:=1) rfl
   go_enter Tryz.func140,Tryz.ntmps140
   go_upto_region 6 with (go_at_call 87;(with_reducible refine (KC.out _).mono ?_);rintro e w2 ⟨v2,rfl,hx2,ho2⟩;have X2:=hide hx2;have O2:=hide ho2;have R2:=hide (HR.out.ext hx2);clear hx2 ho2)
   clear c0 c1
   have c0:=R2.out.cell (i:=0) rfl
   have f0:=R2.out.frozen 0
   go_wp2
   go_ret
   exact ⟨v2,rfl,O2.out.farB HR.out.lt 0 _,⟨none,0,R2.out.set 0 _,Nat.le_refl _, .inl ⟨rfl,rfl,rfl⟩⟩,grown_set (grown_of_ext X2.out _)⟩
  ·have RL:Hid (Rd w (some ⟨b,off,none⟩) (l.take n)):=hide (((show Rd w0 (some ⟨b,off,none⟩) l from fun _=>⟨b,off,rfl,hj⟩).ext hx).take n)
   have HTL:Hid ((l.take n).length=n):=hide (by rw [List.length_take,HM.out];omega)
   have HDL:Hid ((l.drop n).length=m - n):=hide (by rw [List.length_drop,HM.out])
   have KC:=hide (fun (W:World)=>clone_any (some ⟨b,off,none⟩) (l.take n) n c W)
   have HJ:=hide hj
   have HHC:=hide hc
   clear hr h hs hj hl hx
   by_cases hcn:c=n
   ·obtain rfl:c=m:=by have:=HHC.out;omega
    subst hcn
    go_enter Tryz.func140,Tryz.ntmps140
    go_upto_region 6 with (go_at_call 87;(with_reducible refine (KC.out _ RL.out HTL.out (by omega)).mono ?_);rintro e w2 ⟨v2,rfl,hx2,ho2⟩;have X2:=hide hx2;have O2:=hide ho2;have R2:=hide (HR.out.ext hx2);clear hx2 ho2)
    clear c0 c1 f0 f1
    have c0:=R2.out.cell (i:=0) rfl
    have f0:=R2.out.frozen 0
    go_wp2
    go_ret
    refine ⟨v2,rfl,O2.out.farB HR.out.lt 0 _,⟨some ⟨b,off,none⟩,0, ?_, ?_, .inr ⟨b,off,rfl,fun j u hu=> ?_⟩⟩,grown_set (grown_of_ext X2.out _)⟩
    ·show Rw _ _ _ [.slice _ (l.drop c).length _,_]
     rw [HDL.out,Nat.sub_self]
     exact R2.out.set 0 _
    ·show (l.drop c).length≤0
     rw [HDL.out];omega
    ·have hu:(l.drop c)[j]? =some u:=hu
     rw [List.drop_eq_nil_of_le (by rw [HM.out];exact Nat.le_refl _)] at hu
     cases hu
   ·have hcn2:¬c=n:=hcn
    go_enter Tryz.func140,Tryz.ntmps140
    go_upto_region 6 with (go_at_call 87;(with_reducible refine (KC.out _ RL.out HTL.out (by omega)).mono ?_);rintro e w2 ⟨v2,rfl,hx2,ho2⟩;have X2:=hide hx2;have O2:=hide ho2;have R2:=hide (HR.out.ext hx2);clear hx2 ho2)
    clear c0 c1 f0 f1
    have c0:=R2.out.cell (i:=0) rfl
    have f0:=R2.out.frozen 0
    go_wp2
    go_ret
    refine ⟨v2,rfl,O2.out.farB HR.out.lt 0 _,⟨some ⟨b,off + n,none⟩,c - n, ?_, ?_, .inr ⟨b,off + n,rfl,fun j u hu=> ?_⟩⟩,grown_set (grown_of_ext X2.out _)⟩
    ·show Rw _ _ _ [.slice _ (l.drop n).length _,_]
     rw [HDL.out]
     exact R2.out.set 0 _
    ·show (l.drop n).length≤c - n
     rw [HDL.out];have:=HHC.out;omega
    ·have hu:(l.drop n)[j]? =some u:=hu
     rw [List.getElem?_drop] at hu
     rw [Nat.add_assoc]
     exact HJ.out (n + j) u hu
theorem tk_le (n:Nat) (st:List UInt8×Bool):(tk n st).1.length≤n:=by
 unfold tk
 split
 ·exact Nat.zero_le _
 ·rw [List.length_take];omega
theorem tk_left (n:Nat) (st:List UInt8×Bool):(tk n st).2.1.length≤st.1.length:=by
 unfold tk
 split
 ·exact Nat.zero_le _
 ·show (st.1.drop n).length≤_
  rw [List.length_drop];omega
theorem number_any (g n:Nat) (st:List UInt8×Bool) (w0 w:World) (hx:Ext w0 w) (h:RdrAt w0 w g st) (hl:st.1.length≤140737488351232) (hn:n≤8):
  Calls Tryz.prog 139 #[.pointer (some ⟨g,0,none⟩), .int .i64 (n:Int)] w (RdrP w0 w g (tk n st).2 (fun _ v=>v= .int .u64 (num (tk n st).1))):=by
 have KT:=hide (take_any g n st.1 st.2 w0 w hx h hl)
 obtain ⟨t,HT⟩:∃t,Hid ((tk n st).1=t):=⟨_,hide rfl⟩
 obtain ⟨s2,HS⟩:∃s,Hid ((tk n st).2=s):=⟨_,hide rfl⟩
 have HTL:Hid (t.length≤n):=hide (by rw [← HT.out];exact tk_le n st)
 rw [show (st.1,st.2)=st from rfl,HT.out,HS.out] at KT
 rw [HT.out,HS.out]
 clear h hl hx
 obtain ⟨p,HP⟩:∃p,Hid (t.length=p):=⟨_,hide rfl⟩
 have hp8:(p:Int)≤8:=by have:=HTL.out;have:=HP.out;omega
 go_enter Tryz.func139,Tryz.ntmps139
 go_upto_region 3 with (go_at_call 140;(with_reducible refine KT.out.mono ?_);rintro e w2 ⟨v2,rfl,ho2,hr2,hg2⟩;obtain ⟨At,ct,rfl,-,hrt⟩:=Own.bytes ho2;have RT:=hide hrt;have R2:=hide hr2;have G2:=hide hg2;clear hrt hr2 hg2 ho2)
 rw [HP.out]
 go_loop [5,7,12] (fun u _ c=>∃j:Nat,j≤p∧c= .int .i64 j∧u= .int .u64 (num (t.take j))) (fun _ _ c=>p - (intOf c).toNat)
 case atStart=>exact ⟨0,Nat.zero_le _,rfl,rfl⟩
 case round=>
  obtain ⟨j,hj,rfl,rfl⟩:=hrel
  by_cases hlt:j < p
  ·obtain ⟨b,off,x,rfl,hx,hc⟩:=RT.out.at (k:=j) (by rw [HP.out];exact hlt)
   have hb:=(num_bound (t.take j)).1
   have HX:=hide hx
   have hji:(j:Int) < (p:Int):=by omega
   clear hx
   go_wp2
   refine ⟨⟨j + 1,by omega,by go_num, ?_⟩,by simp [intOf];omega⟩
   have hb2:=num_take_lt t j (by omega)
   have hx2:=x.toNat_lt
   have hst:=num_step t 0 j x (by rw [Nat.zero_add];exact HX.out)
   rw [List.drop_zero] at hst
   rw [or_byte _ _ hb hb2 (by omega) (by omega),hst]
  ·obtain rfl:j=p:=by omega
   go_wp2
   go_ret
   exact ⟨_,rfl,by rw [List.take_of_length_le (by rw [HP.out];exact Nat.le_refl _)];rfl,R2.out,G2.out⟩
def dvs (L:List (Int×Int)):List Value:=L.flatMap fun d=> [.int .i64 d.1, .int .u64 d.2]
theorem dvs_append (a b:List (Int×Int)):dvs (a ++ b)=dvs a ++ dvs b:=List.flatMap_append
theorem dvs_get:∀(L:List (Int×Int)) (j:Nat) (d:Int×Int),L[j]? =some d→(dvs L)[j * 2]? =some (.int .i64 d.1)∧(dvs L)[j * 2 + 1]? =some (.int .u64 d.2)
 | [],_,_,h=>by cases h
 | x::L,0,d,h=>by injection h with h;subst h;exact ⟨rfl,rfl⟩
 | x::L,j + 1,d,h=>by
  have ih:=dvs_get L j d h
  have e:dvs (x::L)= .int .i64 x.1:: .int .u64 x.2::dvs L:=rfl
  rw [e,show (j + 1) * 2=j * 2 + 1 + 1 by omega]
  exact ih
def OwnDr (w:World) (B:Nat) (v:Value) (L:List (Int×Int)):Prop:=w.ownsRow B 136 2 v L.length (dvs L)
theorem OwnDr.nil (w:World) (B:Nat):OwnDr w B (.slice none 0 0) []:=World.ownsRow_nil _ _ _ _
theorem OwnDr.same {w w':World} {B:Nat} {v:Value} {L:List (Int×Int)} (h:OwnDr w B v L) (hx:∀k,v.ownBlock=some k→w'.heap[k]? =w.heap[k]?):OwnDr w' B v L:=by
 refine ⟨h.1, ?_⟩
 rcases h.2 with hn | ⟨g,cap,cur,rfl,hb,hg,rest⟩
 ·exact .inl hn
 ·exact .inr ⟨g,cap,cur,rfl,hb,(hx g rfl).trans hg,rest⟩
theorem OwnDr.at {w:World} {B:Nat} {v:Value} {L:List (Int×Int)} (h:OwnDr w B v L) (k:Nat) (hk:v.ownBlock=some k):B≤k∧k < w.heap.size:=by
 rcases h.2 with ⟨rfl,_⟩ | ⟨g,cap,cur,rfl,hb,hg,_⟩
 ·cases hk
 ·injection hk with hk
  subst hk
  exact ⟨hb,(Array.getElem?_eq_some_iff.1 hg).1⟩
theorem OwnDr.slice {w:World} {B:Nat} {v:Value} {L:List (Int×Int)} (h:OwnDr w B v L):∃A c,v= .slice A L.length c∧L.length≤c∧RdD w A L:=by
 rcases h.2 with ⟨rfl,h0⟩ | ⟨g,cap,cur,rfl,hb,hg,hnc,_⟩
 ·exact ⟨none,0,by rw [h0],by rw [h0];exact Nat.le_refl _,fun hn=>absurd (List.length_eq_zero_iff.1 h0) hn⟩
 ·refine ⟨_,cap,rfl,hnc,fun _=>⟨g,0,rfl,fun j d hj=> ?_⟩⟩
  obtain ⟨e1,e2⟩:=dvs_get L j d hj
  have c1:=h.cells (g:=g) rfl (j * 2) _ e1
  have c2:=h.cells (g:=g) rfl (j * 2 + 1) _ e2
  rw [add_flat] at c1 c2
  exact ⟨c1,c2⟩
theorem rcinfo_dirty:(Tryz.prog.info? 136).map (fun i=>(i.zero,i.size,i.bytes))=some (some (.agg #[.int .i64 0, .int .u64 0]),2,16):=by kernel_rfl
theorem rcinfo_partsD:∃i0,Tryz.prog.info? 136=some i0∧i0.zero=some (.agg #[.int .i64 0, .int .u64 0])∧i0.size=2∧i0.bytes=16:=by
 have h:=rcinfo_dirty
 cases hq:Tryz.prog.info? 136 with
 | none=>rw [hq] at h;cases h
 | some i=>
  rw [hq] at h
  simp only [Option.map_some,Option.some.injEq,Prod.mk.injEq] at h
  exact ⟨i,rfl,h.1,h.2.1,h.2.2⟩
theorem append_dr {W:World} {B:Nat} {v:Value} {L:List (Int×Int)} (d:Int×Int) (hown:OwnDr W B v L) (hk:L.length≤1000) (hB:B≤W.heap.size) (ty:Nat):
  ∃A' c' W2,(Builtin.append_ #[93,93] ty #[v, .slice (some ⟨W.heap.size,0,none⟩) 1 1]).run Tryz.prog (W.alloc (.cells #[.int .i64 d.1, .int .u64 d.2] 136))= .ok (.slice A' (L.length + 1) c') W2∧
   OwnDr W2 B (.slice A' (L.length + 1) c') (L ++ [d])∧(W.alloc (.cells #[.int .i64 d.1, .int .u64 d.2] 136)).grownBy W2 v.ownBlock:=by
 obtain ⟨i0,hi,hz,hsz,hby⟩:=rcinfo_partsD
 have R:=Rw.new W 136 [.int .i64 d.1, .int .u64 d.2]
 have hX:=Ext.alloc W (.cells #[.int .i64 d.1, .int .u64 d.2] 136)
 have hown':OwnDr (W.alloc (.cells #[.int .i64 d.1, .int .u64 d.2] 136)) B v L:=hown.same fun k hk=>hX.block k (hown.at k hk).2
 have hone:∀u∈ [Value.int .i64 d.1, .int .u64 d.2],u.oneCell' =true:=by
  intro u hu
  rcases List.mem_cons.1 hu with rfl | hu
  ·rfl
  ·rw [List.mem_singleton.1 hu];rfl
 obtain ⟨v',w',hrun,h3,h4,-,-⟩:=run_append_own_at (P:=Tryz.prog) (w:=W.alloc (.cells #[.int .i64 d.1, .int .u64 d.2] 136)) B 93 ty 136 i0 _ 2 16 Tryz.underlying93 hi hz hsz hby rfl (by decide) v L.length (dvs L) hown' ⟨W.heap.size,0,none⟩ 1 1 [.int .i64 d.1, .int .u64 d.2] rfl (fun j u hu=>by rw [add_flat,Nat.zero_add];exact R.cell hu) hone (by unfold maxLen;omega) (by omega) (Nat.le_trans hB hX.size)
 obtain ⟨A',c',rfl⟩:∃A' c',v' = .slice A' (L.length + 1) c':=by
  rcases h3.2 with ⟨_,h0⟩ | ⟨g',cap,_,hv,_⟩
  ·omega
  ·exact ⟨_,_,hv⟩
 refine ⟨A',c',w',hrun, ?_,h4⟩
 unfold OwnDr
 rw [dvs_append,List.length_append]
 exact h3
def dirR:Nat→List UInt8×Bool→List (Int×Int)×(List UInt8×Bool)
 | 0,st=>([],st)
 | m + 1,st=>((num (tk 2 st).1,num (tk 8 (tk 2 st).2).1)::(dirR m (tk 8 (tk 2 st).2).2).1,(dirR m (tk 8 (tk 2 st).2).2).2)
theorem rcgives_append {P:Program} {o:Oper} {a:Act} {w:World} {R:Value→World→Prop} {s x:Operand} {t:TypeId} {u y v:Value} {w':World} (h:o.op= .call { callee:= .builtin .append,args:= #[s,x],argTypes:= #[t,t] }) (hs:a.eval s=u) (hx:a.eval x=y)
  (hrun:(Builtin.append_ #[t,t] o.type #[u,y]).run P w= .ok v w') (hR:R v w'):gives P o a w R:=by
 refine gives_of_run (w':=w') (v:=v) ?_ hR
 unfold execOp
 simp only [h,resolve,invoke,builtin,Sem.run_bind,Sem.run_pure,Result.andThen_ok,List.map_toArray,List.map_cons,List.map_nil,hs,hx,hrun]
theorem step_gives {P:Program} {ops:Array Oper} {o:Oper} {a:Act} {w w':World} {x:Value} {K:Act→World→Prop} {Q:Exit→Act→World→Prop} {E:Prop} (h:gives P o a w fun v w2=>v=x∧w2=w') (hgd:o.guard=none) (hK:K (a.put o.dst x) w'):
  if Region.wanted o (yielded ops a.tmps)=true then o.wp P a w K Q else E:=by
 rw [if_pos (by simp [Region.wanted,hgd])]
 exact wp_of_gives h fun v w2 ⟨hv,hw⟩=>by subst hv hw;exact hK
structure Only2 (g h:Nat) (w w':World):Prop where
 os:w'.os=w.os
 tape:w'.tape=w.tape
 output:w'.output=w.output
 size:w.heap.size≤w'.heap.size
 block:∀k,k < w.heap.size→k≠g→k≠h→w'.heap[k]? =w.heap[k]?
theorem Only2.refl (g h:Nat) (w:World):Only2 g h w w:=⟨rfl,rfl,rfl,Nat.le_refl _,fun _ _ _ _=>rfl⟩
theorem Only2.grown {g h:Nat} {w w1 w2:World} {r:Option Nat} (k:Only2 g h w w1) (hg:w1.grownBy w2 r) (hr:∀b,r=some b→b=g∨b=h∨w.heap.size≤b):Only2 g h w w2:=
 ⟨hg.os.trans k.os,hg.tape.trans k.tape,hg.output.trans k.output,Nat.le_trans k.size hg.size,fun b hb h1 h2=>(hg.block b (Nat.lt_of_lt_of_le hb k.size) (fun e=>by rcases hr b e.symm with h3 | h3 | h3 <;> omega)).trans (k.block b hb h1 h2)⟩
theorem Only2.ext {g h:Nat} {w w1 w2:World} (k:Only2 g h w w1) (hx:Ext w1 w2):Only2 g h w w2:=k.grown (grown_of_ext hx none) (fun b h=>by cases h)
theorem Only2.set {g h:Nat} {w w1:World} (k:Only2 g h w w1) (i:Nat) (v:Value):Only2 g h w (w1.setCell ⟨h,i,none⟩ v):=
 ⟨k.os,k.tape,k.output,Nat.le_trans k.size (by simp [World.setCell]),fun b hb h1 h2=>(Below.heap_setCell w1 ⟨h,i,none⟩ v b h2).trans (k.block b hb h1 h2)⟩
theorem Only2.ofExt {g h:Nat} {w0 w w':World} (k:Only2 g h w w') (hx:Ext w0 w) (hg:w0.heap.size≤g) (hh:w0.heap.size≤h):Ext w0 w':=
 ⟨k.os.trans hx.os,k.tape.trans hx.tape,k.output.trans hx.output,Nat.le_trans hx.size k.size,fun b hb=>(k.block b (Nat.lt_of_lt_of_le hb hx.size) (by omega) (by omega)).trans (hx.block b hb)⟩
theorem rdr_ne {w0 w:World} {g h:Nat} {st:List UInt8×Bool} {t:TypeId} {vs:List Value} (hr:RdrAt w0 w g st) (hR:Rw w h t vs) (ht:t≠174):h≠g:=fun e=>by
 subst e
 obtain ⟨A,c,h1,_⟩:=hr.out
 unfold Rw at h1 hR
 rw [h1] at hR
 injection hR with hR
 injection hR with _ h2
 exact ht h2.symm
theorem num_lt (n:Nat) (st:List UInt8×Bool):0≤num (tk n st).1∧num (tk n st).1 < 256 ^ n:=by
 have h:=num_bound (tk n st).1
 refine ⟨h.1,Int.lt_of_lt_of_le h.2 ?_⟩
 have h3:256 ^ (tk n st).1.length≤256 ^ n:=Nat.pow_le_pow_right (by omega) (tk_le n st)
 have h2:((256 ^ (tk n st).1.length:Nat):Int)≤((256 ^ n:Nat):Int):=Int.ofNat_le.2 h3
 rw [Int.natCast_pow,Int.natCast_pow] at h2
 exact h2
theorem dirR_len:∀(m:Nat) (st:List UInt8×Bool),(dirR m st).1.length=m
 | 0,_=>rfl
 | m + 1,st=>by simp only [dirR,List.length_cons,dirR_len m]
theorem number_1 (g:Nat) (st:List UInt8×Bool) (w0 w:World) (hx:Ext w0 w) (h:RdrAt w0 w g st) (hl:st.1.length≤140737488351232):
  Calls Tryz.prog 139 #[.pointer (some ⟨g,0,none⟩), .int .i64 1] w (RdrP w0 w g (tk 1 st).2 (fun _ v=>v= .int .u64 (num (tk 1 st).1))):=number_any g 1 st w0 w hx h hl (by decide)
theorem number_2 (g:Nat) (st:List UInt8×Bool) (w0 w:World) (hx:Ext w0 w) (h:RdrAt w0 w g st) (hl:st.1.length≤140737488351232):
  Calls Tryz.prog 139 #[.pointer (some ⟨g,0,none⟩), .int .i64 2] w (RdrP w0 w g (tk 2 st).2 (fun _ v=>v= .int .u64 (num (tk 2 st).1))):=number_any g 2 st w0 w hx h hl (by decide)
theorem number_8 (g:Nat) (st:List UInt8×Bool) (w0 w:World) (hx:Ext w0 w) (h:RdrAt w0 w g st) (hl:st.1.length≤140737488351232):
  Calls Tryz.prog 139 #[.pointer (some ⟨g,0,none⟩), .int .i64 8] w (RdrP w0 w g (tk 8 st).2 (fun _ v=>v= .int .u64 (num (tk 8 st).1))):=number_any g 8 st w0 w hx h hl (by decide)
theorem check_any (g h:Nat) (st:List UInt8×Bool) (k tx pv pg off nx:Int) (v5 v6:Value) (o0:Bool) (w0 w:World) (hx:Ext w0 w) (hg0:w0.heap.size≤g) (hh0:w0.heap.size≤h) (hr:RdrAt w0 w g st) (hl:st.1.length≤140737488351232) (hR:Rw w h 95 [.int .u8 k, .int .u64 tx, .int .u64 pv, .int .i64 pg, .int .i64 off,v5,v6, .int .u64 nx, .slice none 0 0, .bool o0])
  (q:Nat) (hq:num (tk 1 st).1=(q:Int)):
  Calls Tryz.prog 141 #[.pointer (some ⟨g,0,none⟩), .pointer (some ⟨h,0,none⟩)] w (fun e w' =>e= .returned (.tuple #[])∧∃v8,Rw w' h 95 [.int .u8 k, .int .u64 tx, .int .u64 pv, .int .i64 pg, .int .i64 off,v5,v6, .int .u64 nx,v8, .bool ((q:Int) % 2==1)]∧OwnDr w' w.heap.size v8 (dirR (q / 2) (tk 1 st).2).1∧RdrAt w0 w' g (dirR (q / 2) (tk 1 st).2).2∧Only2 g h w w'):=by
 have HX:=hide hx
 have HG0:=hide hg0
 have HH0:=hide hh0
 have HRR:=hide hr
 have HRW:=hide hR
 have hne:=rdr_ne hr hR (by decide)
 have HNE:=hide hne
 have KN:=hide (number_1 g st w0 w hx hr hl)
 have hqb:(q:Int)≤255:=by have:=(num_lt 1 st).2;rw [hq] at this;omega
 obtain ⟨s1,HS1⟩:∃s,Hid ((tk 1 st).2=s):=⟨_,hide rfl⟩
 have HL1:Hid (s1.1.length≤140737488351232):=hide (by rw [← HS1.out];exact Nat.le_trans (tk_left 1 st) hl)
 rw [hq,HS1.out] at KN
 rw [HS1.out]
 have HGW0:Hid (g < w.heap.size∧h < w.heap.size):=hide ⟨hr.lt,hR.lt⟩
 clear hx hg0 hh0 hr hR hl hq hne
 have hwq:IntKind.i64.wrap (q:Int)=(q:Int):=by rw [IntKind.wrap_i64];omega
 go_enter Tryz.func141,Tryz.ntmps141
 go_upto_region 1 with (go_at_call 139;(with_reducible refine KN.out.mono ?_);rintro e w2 ⟨v2,rfl,rfl,hr2,hg2⟩;have R2:=hide hr2;have G2:=hide hg2;have RW2:=hide ((hg2.block h HRW.out.lt (fun e=>HNE.out (by injection e))).trans HRW.out);have Y2:Hid (Only2 g h w w2):=hide ((Only2.refl g h w).grown hg2 (fun b e=> .inl (by injection e with e;exact e.symm)));clear hr2 hg2)
 have RW2:Hid (Rw w2 h 95 [.int .u8 k, .int .u64 tx, .int .u64 pv, .int .i64 pg, .int .i64 off,v5,v6, .int .u64 nx, .slice none 0 0, .bool o0]):=RW2
 have f9:=RW2.out.frozen 9
 have c9:=RW2.out.cell (i:=9) rfl
 go_upto_region 3 with fail
 obtain ⟨op,HOP⟩:∃op,Hid (((q:Int) % 2==1)=op):=⟨_,hide rfl⟩
 obtain ⟨m,HMM⟩:∃m:Nat,Hid (q / 2=m):=⟨_,hide rfl⟩
 rw [show (q:Int) / 2=((q / 2:Nat):Int) by omega,HMM.out]
 rw [HOP.out]

 obtain ⟨w3,hR3,hY3,hr3,hgg⟩:∃w3,Rw w3 h 95 [.int .u8 k, .int .u64 tx, .int .u64 pv, .int .i64 pg, .int .i64 off,v5,v6, .int .u64 nx, .slice none 0 0, .bool op]∧Only2 g h w w3∧RdrAt w0 w3 g s1∧w2.setCell ⟨h,9,none⟩ (.bool op)=w3:=⟨_,RW2.out.set 9 _,Y2.out.set 9 _,R2.out.same (Below.heap_setCell w2 ⟨h,9,none⟩ _ g (fun e=>HNE.out e.symm)),rfl⟩
 rw [hgg]
 have RW3:=hide hR3
 have Y3:=hide hY3
 have R3:=hide hr3
 clear hgg hR3 hY3 hr3 R2 G2 RW2 Y2 f9 c9 KN HRR
 have hmb:(m:Int)≤127:=by have:=HMM.out;omega
 have HGW:Hid (g < w.heap.size∧h < w.heap.size):=HGW0
 go_loopw [17] (fun iv wr=>∃(i:Nat) (acc:List (Int×Int)) (sti:List UInt8×Bool) (v8:Value),i≤m∧iv= .int .i64 (i:Int)∧Hid (dirR m s1=(acc ++ (dirR (m - i) sti).1,(dirR (m - i) sti).2))∧Hid (acc.length=i)∧Hid (sti.1.length≤140737488351232)∧Hid (Rw wr h 95 [.int .u8 k, .int .u64 tx, .int .u64 pv, .int .i64 pg, .int .i64 off,v5,v6, .int .u64 nx,v8, .bool op])∧Hid (OwnDr wr w.heap.size v8 acc)∧Hid (RdrAt w0 wr g sti)∧Hid (Only2 g h w wr)) (fun iv _=>m - (intOf iv).toNat)
 case atStart=>exact ⟨0, [],s1, .slice none 0 0,Nat.zero_le _,rfl,hide rfl,hide rfl,HL1,RW3,hide (OwnDr.nil _ _),R3,Y3⟩
 case round=>
  obtain ⟨i,acc,sti,v8,hi,rfl,HDR,HAL,HLI,RWI,DI,RI,YI⟩:=hrel
  clear RW3 Y3 R3
  by_cases hlt:i < m
  ·have hii:(i:Int) < (m:Int):=by omega
   have hi0:(0:Int)≤(i:Int):=by omega
   have KN2:=hide (number_2 g sti w0 _ (YI.out.ofExt HX.out HG0.out HH0.out) RI.out HLI.out)
   obtain ⟨y,HY⟩:∃y,Hid (num (tk 2 sti).1=y):=⟨_,hide rfl⟩
   obtain ⟨sj,HSJ⟩:∃s,Hid ((tk 2 sti).2=s):=⟨_,hide rfl⟩
   have hyb:0≤y∧y < 65536:=by have h:=num_lt 2 sti;rw [HY.out] at h;exact ⟨h.1,by have:=h.2;omega⟩
   have hwy:IntKind.i64.wrap y=y:=by rw [IntKind.wrap_i64];omega
   have HLJ:Hid (sj.1.length≤140737488351232):=hide (by rw [← HSJ.out];exact Nat.le_trans (tk_left 2 sti) HLI.out)
   rw [HY.out,HSJ.out] at KN2
   go_upto_region 5 with (go_at_call 139;(with_reducible refine KN2.out.mono ?_);rintro e w4 ⟨v4,rfl,rfl,hr4,hg4⟩;have R4:=hide hr4;have RW4:=hide ((hg4.block h RWI.out.lt (fun e=>HNE.out (by injection e))).trans RWI.out);have D4:=hide (DI.out.same (fun b hb=>hg4.block b (DI.out.at b hb).2 (fun e=>by injection e with e;have:=(DI.out.at b hb).1;have:=HGW.out.1;omega)));have Y4:Hid (Only2 g h w w4):=hide (YI.out.grown hg4 (fun b e=> .inl (by injection e with e;exact e.symm)));clear hr4 hg4)
   have RW4:Hid (Rw w4 h 95 [.int .u8 k, .int .u64 tx, .int .u64 pv, .int .i64 pg, .int .i64 off,v5,v6, .int .u64 nx,v8, .bool op]):=RW4
   obtain ⟨A8,cc8,hv8,-,-⟩:=D4.out.slice
   rw [HAL.out] at hv8
   subst hv8
   have f8:=RW4.out.frozen 8
   have c8:=RW4.out.cell (i:=8) rfl
   have KN8:=hide (number_8 g sj w0 w4.drew ((Y4.out.ofExt HX.out HG0.out HH0.out).trans (Ext.drew _)) (R4.out.ext (Ext.drew _)) HLJ.out)
   obtain ⟨z,HZ⟩:∃y,Hid (num (tk 8 sj).1=y):=⟨_,hide rfl⟩
   obtain ⟨sk,HSK⟩:∃s,Hid ((tk 8 sj).2=s):=⟨_,hide rfl⟩
   rw [HZ.out,HSK.out] at KN8
   clear KN2 RI RWI DI YI
   go_region_law (first
     | (go_simp;go_at_call 139;refine KN8.out.mono ?_;rintro e w5 ⟨v5q,rfl,rfl,hr5,hg5⟩;have c8b:w5.cell? ⟨h,8,none⟩=some (.slice A8 i cc8):=(World.cell?_of_block (a:=⟨h,8,none⟩) (hg5.block h RW4.out.lt (fun e=>HNE.out (by injection e)))).trans c8;have RW5:Rw w5 h 95 [.int .u8 k, .int .u64 tx, .int .u64 pv, .int .i64 pg, .int .i64 off,v5,v6, .int .u64 nx, .slice A8 i cc8, .bool op]:=(hg5.block h RW4.out.lt (fun e=>HNE.out (by injection e))).trans RW4.out;have c8d:=(RW5.ext (Ext.alloc w5 (.cells #[.int .i64 y, .int .u64 z] 136))).cell (i:=8) rfl;have D5:OwnDr w5 w.heap.size (.slice A8 i cc8) acc:=D4.out.same (fun b hb=>hg5.block b (D4.out.at b hb).2 (fun e=>by injection e with e;have:=(D4.out.at b hb).1;have:=HGW.out.1;omega));have Y5:Only2 g h w w5:=(Y4.out.ext (Ext.drew _)).grown hg5 (fun b e=> .inl (by injection e with e;exact e.symm)))
     | (obtain ⟨A9,cc9,w9,hrun,ho9,hg9⟩:=append_dr (W:=w5) (y,z) D5 (by rw [HAL.out];omega) Y5.size 93;refine step_gives (rcgives_append (s:= .tmp 26) (x:= .tmp 31) rfl (by rfl) (by rfl) hrun ⟨rfl,rfl⟩) rfl ?_;have RW9:Rw w9 h 95 [.int .u8 k, .int .u64 tx, .int .u64 pv, .int .i64 pg, .int .i64 off,v5,v6, .int .u64 nx, .slice A8 i cc8, .bool op]:=(hg9.block h (RW5.ext (Ext.alloc _ _)).lt (fun e=>by have:=(D5.at h e.symm).1;have:=HGW.out.2;omega)).trans (RW5.ext (Ext.alloc _ _));have c8c:=RW9.cell (i:=8) rfl;have f8c:=RW9.frozen 8))
   all_goals
    have Y9:Only2 g h w w9:=(Y5.ext (Ext.alloc _ _)).grown hg9 (fun b e=> .inr (.inr (D5.at b e).1))
    have RW9b:Rw w9 h 95 [.int .u8 k, .int .u64 tx, .int .u64 pv, .int .i64 pg, .int .i64 off,v5,v6, .int .u64 nx, .slice A8 i cc8, .bool op]:=RW9
    have R9:RdrAt w0 w9 g sk:=(hr5.ext (Ext.alloc _ _)).same (hg9.block g (hr5.ext (Ext.alloc _ _)).lt (fun e=>by have:=(D5.at g e.symm).1;have:=HGW.out.1;omega))
    obtain ⟨wx,hwx⟩:∃wx,w9.setCell ⟨h,8,none⟩ (.slice A9 (acc.length + 1) cc9)=wx:=⟨_,rfl⟩
    have YX:Hid (Only2 g h w wx):=hide (by rw [← hwx];exact Y9.set 8 _)
    have RWX:Hid (Rw wx h 95 [.int .u8 k, .int .u64 tx, .int .u64 pv, .int .i64 pg, .int .i64 off,v5,v6, .int .u64 nx, .slice A9 (acc.length + 1) cc9, .bool op]):=hide (by rw [← hwx];exact RW9b.set 8 _)
    have RX:Hid (RdrAt w0 wx g sk):=hide (R9.same (by rw [← hwx];exact Below.heap_setCell w9 ⟨h,8,none⟩ _ g (fun e=>HNE.out e.symm)))
    have DX:Hid (OwnDr wx w.heap.size (.slice A9 (acc.length + 1) cc9) (acc ++ [(y,z)])):=hide (ho9.same (fun b hb=>by rw [← hwx];exact Below.heap_setCell w9 ⟨h,8,none⟩ _ b (fun e=>by have:=(ho9.at b hb).1;have:=HGW.out.2;simp only at e;omega)))
    have HLK:Hid (sk.1.length≤140737488351232):=hide (by rw [← HSK.out];exact Nat.le_trans (tk_left 8 sj) HLJ.out)
    have HDN:Hid (dirR m s1=((acc ++ [(y,z)]) ++ (dirR (m - (i + 1)) sk).1,(dirR (m - (i + 1)) sk).2)):=hide (by
     rw [HDR.out,show m - i=(m - (i + 1)) + 1 by omega]
     simp only [dirR,HY.out,HSJ.out,HZ.out,HSK.out,List.append_assoc,List.singleton_append])
    rw [hwx]
    clear hwx Y9 RW9b R9 hr5 hg5 D5 Y5 hrun ho9 hg9 c8b c8c c8d f8c c8 f8 RW9 RW5
    go_wp2
    exact ⟨⟨i + 1,acc ++ [(y,z)],sk,_,by omega,by go_num,HDN,hide (by rw [List.length_append,HAL.out];rfl),HLK,RWX,DX,RX,YX⟩,by simp [intOf];omega⟩
  ·have hii:¬(i:Int) < (m:Int):=by omega
   obtain rfl:i=m:=by omega
   have HE:Hid (dirR i s1=(acc,sti)):=hide (by rw [HDR.out,Nat.sub_self];simp [dirR])
   go_wp2
   go_end0
   refine ⟨rfl,v8, ?_, ?_, ?_,YI.out⟩
   ·rw [HOP.out];exact RWI.out
   ·rw [HMM.out,HE.out];exact DI.out
   ·rw [HMM.out,HE.out];exact RI.out
def rcdN (b:Bool) (n:Nat) (st:List UInt8×Bool):Int×(List UInt8×Bool):=if b then (num (tk n st).1,(tk n st).2) else (0,st)
def rcdB (b:Bool) (n:Nat) (st:List UInt8×Bool):List UInt8×(List UInt8×Bool):=if b then tk n st else ([],st)
def rdD (b:Bool) (q:Nat) (st:List UInt8×Bool):List (Int×Int)×(List UInt8×Bool):=if b then dirR (q / 2) st else ([],st)
def rdRec (st:List UInt8×Bool):Rec×(List UInt8×Bool):=
 let a0:=tk 1 st
 let k:=num a0.1
 let a1:=tk 8 a0.2
 let a2:=rcdN (hpv k) 8 a1.2
 let a3:=rcdN (hch k) 2 a2.2
 let a4:=rcdN (hch k) 2 a3.2
 let a5:=rcdN (hch k) 2 a4.2
 let a6:=rcdB (hbf k) a5.1.toNat a5.2
 let a7:=rcdB (hch k) a5.1.toNat a6.2
 let a8:=rcdN (hnx k) 8 a7.2
 let a9:=rcdN (hck k) 1 a8.2
 let b:=rdD (hck k) a9.1.toNat a9.2
 (⟨k,num a1.1,a2.1,a3.1,a4.1,a6.1,a7.1,a8.1,b.1,a9.1 % 2==1⟩,b.2)
def RecP (w0 w:World) (g:Nat) (R:Rec×(List UInt8×Bool)) (e:Ending) (w':World):Prop:=
 ∃v5 v6 v8,e= .returned (.agg #[.int .u8 R.1.k, .int .u64 R.1.tx, .int .u64 R.1.pv, .int .i64 R.1.pg, .int .i64 R.1.off,v5,v6, .int .u64 R.1.nx,v8, .bool R.1.op])∧Own w' w.heap.size v5 R.1.bf∧Own w' w.heap.size v6 R.1.af∧OwnDr w' w.heap.size v8 R.1.dl∧RdrAt w0 w' g R.2∧w.grownBy w' (some g)∧∀b,v5.ownBlock=some b→v6.ownBlock≠some b
theorem Own.sameB {w w':World} {B:Nat} {v:Value} {l:List UInt8} (h:Own w B v l) (hx:∀k,B≤k→k < w.heap.size→w'.heap[k]? =w.heap[k]?):Own w' B v l:=by
 refine ⟨h.1, ?_⟩
 rcases h.2 with hn | ⟨g,cap,cur,rfl,hb,hg,rest⟩
 ·exact .inl hn
 ·exact .inr ⟨g,cap,cur,rfl,hb,(hx g hb (Array.getElem?_eq_some_iff.1 hg).1).trans hg,rest⟩
theorem Own.atB {w:World} {B:Nat} {v:Value} {l:List UInt8} (h:Own w B v l) (k:Nat) (hk:v.ownBlock=some k):B≤k∧k < w.heap.size:=by
 rcases h.2 with ⟨rfl,_⟩ | ⟨g,cap,cur,rfl,hb,hg,_⟩
 ·cases hk
 ·injection hk with hk
  subst hk
  exact ⟨hb,(Array.getElem?_eq_some_iff.1 hg).1⟩
theorem Only2.to1 {g h:Nat} {w w':World} (k:Only2 g h w w') (hh:w.heap.size≤h):w.grownBy w' (some g):=
 ⟨k.os,k.tape,k.output,k.size,fun b hb hne=>k.block b hb (fun e=>hne (by rw [e])) (by omega)⟩
theorem own_mono2 {w:World} {B B':Nat} {v:Value} {l:List UInt8} (h:Own w B v l) (hB:B'≤B):Own w B' v l:=by
 refine ⟨h.1, ?_⟩
 rcases h.2 with hn | ⟨g,cap,cur,rfl,hb,rest⟩
 ·exact .inl hn
 ·exact .inr ⟨g,cap,cur,rfl,Nat.le_trans hB hb,rest⟩
theorem sets_only (g:Nat):∀(l:List (Nat×Value)) (w:World),(l.foldl (fun w p=>w.setCell ⟨g,p.1,none⟩ p.2) w).os=w.os∧(l.foldl (fun w p=>w.setCell ⟨g,p.1,none⟩ p.2) w).tape=w.tape∧(l.foldl (fun w p=>w.setCell ⟨g,p.1,none⟩ p.2) w).output=w.output∧(l.foldl (fun w p=>w.setCell ⟨g,p.1,none⟩ p.2) w).heap.size=w.heap.size∧∀b,b≠g→(l.foldl (fun w p=>w.setCell ⟨g,p.1,none⟩ p.2) w).heap[b]? =w.heap[b]?
 | [],w=>⟨rfl,rfl,rfl,rfl,fun _ _=>rfl⟩
 | p::l,w=>by
  obtain ⟨h1,h2,h3,h4,h5⟩:=sets_only g l (w.setCell ⟨g,p.1,none⟩ p.2)
  rw [List.foldl_cons]
  exact ⟨h1,h2,h3,h4.trans (by simp [World.setCell]),fun b hb=>(h5 b hb).trans (Below.heap_setCell w ⟨g,p.1,none⟩ p.2 b hb)⟩
theorem ownD_mono {w:World} {B B':Nat} {v:Value} {l:List (Int×Int)} (h:OwnDr w B v l) (hB:B'≤B):OwnDr w B' v l:=by
 refine ⟨h.1, ?_⟩
 rcases h.2 with hn | ⟨g,cap,cur,rfl,hb,rest⟩
 ·exact .inl hn
 ·exact .inr ⟨g,cap,cur,rfl,Nat.le_trans hB hb,rest⟩
theorem record_1 (g:Nat) (st:List UInt8×Bool) (w0 w:World) (hx:Ext w0 w) (hg0:w0.heap.size≤g) (hr:RdrAt w0 w g st) (hl:st.1.length≤140737488351232) (hk:num (tk 1 st).1=1):
  Calls Tryz.prog 129 #[.pointer (some ⟨g,0,none⟩)] w (RecP w0 w g (rdRec st)):=by
 have HX:=hide hx
 have HG0:=hide hg0
 have HGL:=hide hr.lt
 have HK:=hide hk
 have HL0:=hide hl
 have R0:=hide hr
 have KP:=hide (fun (W:World)=>(show Calls Tryz.prog 122 #[.int .u8 1] W (fun e w' =>e= .returned (.tuple #[.agg #[.bool false, .bool false, .bool false, .bool false, .bool false], .bool true])∧Ext W w') from partsOf_any 1 W))
 clear hx hg0 hr hl hk
 go_enter Tryz.func129,Tryz.ntmps129
 go_upto_region 2 with fail
 obtain ⟨W1,hX1,hRz,hRh,hgg⟩:∃W1,Ext w W1∧Rw W1 w.heap.size 95 [.int .u8 0, .int .u64 0, .int .u64 0, .int .i64 0, .int .i64 0, .slice none 0 0, .slice none 0 0, .int .u64 0, .slice none 0 0, .bool false]∧Rw W1 (w.heap.size + 1) 95 [.int .u8 0, .int .u64 0, .int .u64 0, .int .i64 0, .int .i64 0, .slice none 0 0, .slice none 0 0, .int .u64 0, .slice none 0 0, .bool false]∧(w.alloc (.cells #[.int .u8 0, .int .u64 0, .int .u64 0, .int .i64 0, .int .i64 0, .slice none 0 0, .slice none 0 0, .int .u64 0, .slice none 0 0, .bool false] 95)).alloc (.cells #[.int .u8 0, .int .u64 0, .int .u64 0, .int .i64 0, .int .i64 0, .slice none 0 0, .slice none 0 0, .int .u64 0, .slice none 0 0, .bool false] 95)=W1:=⟨_,(Ext.alloc _ _).trans (Ext.alloc _ _),(Rw.new w 95 [.int .u8 0, .int .u64 0, .int .u64 0, .int .i64 0, .int .i64 0, .slice none 0 0, .slice none 0 0, .int .u64 0, .slice none 0 0, .bool false]).ext (Ext.alloc _ _),(by have h:=Rw.new (w.alloc (.cells #[.int .u8 0, .int .u64 0, .int .u64 0, .int .i64 0, .int .i64 0, .slice none 0 0, .slice none 0 0, .int .u64 0, .slice none 0 0, .bool false] 95)) 95 [.int .u8 0, .int .u64 0, .int .u64 0, .int .i64 0, .int .i64 0, .slice none 0 0, .slice none 0 0, .int .u64 0, .slice none 0 0, .bool false];rwa [show (w.alloc (.cells #[.int .u8 0, .int .u64 0, .int .u64 0, .int .i64 0, .int .i64 0, .slice none 0 0, .slice none 0 0, .int .u64 0, .slice none 0 0, .bool false] 95)).heap.size=w.heap.size + 1 by simp] at h),rfl⟩
 rw [hgg]
 obtain ⟨hz,HHZ⟩:∃hz,Hid (w.heap.size=hz):=⟨_,hide rfl⟩
 rw [HHZ.out] at hRz hRh ⊢
 obtain ⟨h,HHH⟩:∃h,Hid (hz + 1=h):=⟨_,hide rfl⟩
 rw [HHH.out] at hRh
 try rw [HHH.out]
 have BX1:=hide hRh
 have ZX1:=hide hRz
 have R1:=hide (R0.out.ext hX1)
 have Y1:Hid (Only2 g h w W1):=hide ((Only2.refl g h w).ext hX1)
 have HNE:Hid (h≠g∧hz≠g∧h≠hz∧hz < h):=hide (by have:=HGL.out;have:=HHZ.out;have:=HHH.out;omega)
 have HHW:Hid (w0.heap.size≤h∧w.heap.size≤h∧w.heap.size≤hz):=hide (by have:=HX.out.size;have:=HHZ.out;have:=HHH.out;omega)
 obtain ⟨BB,HBB⟩:∃BB,Hid (W1.heap.size=BB):=⟨_,hide rfl⟩
 have HBL:Hid (h < BB∧hz < BB∧g < BB∧w.heap.size≤BB):=hide (by rw [← HBB.out];exact ⟨BX1.out.lt,ZX1.out.lt,R1.out.lt,hX1.size⟩)
 have S1:Hid (BB≤W1.heap.size):=hide (by rw [HBB.out];exact Nat.le_refl _)
 clear hgg hX1 hRz hRh R0
 have KN:=hide (number_1 g st w0 W1 (Y1.out.ofExt HX.out HG0.out HHW.out.1) R1.out HL0.out)
 rw [HK.out] at KN
 obtain ⟨s2,HS2⟩:∃s,Hid ((tk 1 st).2=s):=⟨_,hide rfl⟩
 rw [HS2.out] at KN
 have HL2:Hid (s2.1.length≤140737488351232):=hide (by rw [← HS2.out];exact Nat.le_trans (tk_left 1 st) HL0.out)
 go_upto_region 3 with (go_at_call 139;(with_reducible refine KN.out.mono ?_);rintro e x2 ⟨_,rfl,rfl,hr2,hg2⟩;have R2:=hide hr2;have BX2:Hid (Rw x2 h 95 [.int .u8 0, .int .u64 0, .int .u64 0, .int .i64 0, .int .i64 0, .slice none 0 0, .slice none 0 0, .int .u64 0, .slice none 0 0, .bool false]):=hide ((hg2.block h BX1.out.lt (fun e=>HNE.out.1 (by injection e))).trans BX1.out);have ZX2:Hid (Rw x2 hz 95 [.int .u8 0, .int .u64 0, .int .u64 0, .int .i64 0, .int .i64 0, .slice none 0 0, .slice none 0 0, .int .u64 0, .slice none 0 0, .bool false]):=hide ((hg2.block hz ZX1.out.lt (fun e=>HNE.out.2.1 (by injection e))).trans ZX1.out);have Y2:Hid (Only2 g h w x2):=hide (Y1.out.grown hg2 (fun b e=> .inl (by injection e with e;exact e.symm)));have S2:Hid (BB≤x2.heap.size):=hide (Nat.le_trans S1.out hg2.size);have cc:=BX2.out.cell (i:=0) rfl;have ff:=BX2.out.frozen 0;clear hr2 hg2)
 obtain ⟨w2,hgg,hB,hZ,hR,hY,hS⟩:∃W,x2.setCell ⟨h,0,none⟩ (.int .u8 1)=W∧Rw W h 95 [.int .u8 1, .int .u64 0, .int .u64 0, .int .i64 0, .int .i64 0, .slice none 0 0, .slice none 0 0, .int .u64 0, .slice none 0 0, .bool false]∧Rw W hz 95 [.int .u8 0, .int .u64 0, .int .u64 0, .int .i64 0, .int .i64 0, .slice none 0 0, .slice none 0 0, .int .u64 0, .slice none 0 0, .bool false]∧RdrAt w0 W g s2∧Only2 g h w W∧BB≤W.heap.size:=⟨_,rfl,BX2.out.set 0 _,ZX2.out.far (fun e=>HNE.out.2.2.1 e.symm) _,R2.out.same (Below.heap_setCell x2 ⟨h,0,none⟩ _ g (fun e=>HNE.out.1 e.symm)),Y2.out.set 0 _,Nat.le_trans S2.out (by simp [World.setCell])⟩
 rw [hgg]
 have BX2:=hide hB
 have ZX2:=hide hZ
 have R2:=hide hR
 have Y2:=hide hY
 have S2:=hide hS
 clear hgg hB hZ hR hY hS cc ff
 clear KN
 have KN:=hide (number_8 g s2 w0 w2 (Y2.out.ofExt HX.out HG0.out HHW.out.1) R2.out HL2.out)
 obtain ⟨tx,HU3⟩:∃u,Hid (num (tk 8 s2).1=u):=⟨_,hide rfl⟩
 rw [HU3.out] at KN
 obtain ⟨s3,HS3⟩:∃s,Hid ((tk 8 s2).2=s):=⟨_,hide rfl⟩
 rw [HS3.out] at KN
 have HL3:Hid (s3.1.length≤140737488351232):=hide (by rw [← HS3.out];exact Nat.le_trans (tk_left 8 s2) HL2.out)
 go_upto_region 4 with (go_at_call 139;(with_reducible refine KN.out.mono ?_);rintro e x3 ⟨_,rfl,rfl,hr2,hg2⟩;have R3:=hide hr2;have BX3:Hid (Rw x3 h 95 [.int .u8 1, .int .u64 0, .int .u64 0, .int .i64 0, .int .i64 0, .slice none 0 0, .slice none 0 0, .int .u64 0, .slice none 0 0, .bool false]):=hide ((hg2.block h BX2.out.lt (fun e=>HNE.out.1 (by injection e))).trans BX2.out);have ZX3:Hid (Rw x3 hz 95 [.int .u8 0, .int .u64 0, .int .u64 0, .int .i64 0, .int .i64 0, .slice none 0 0, .slice none 0 0, .int .u64 0, .slice none 0 0, .bool false]):=hide ((hg2.block hz ZX2.out.lt (fun e=>HNE.out.2.1 (by injection e))).trans ZX2.out);have Y3:Hid (Only2 g h w x3):=hide (Y2.out.grown hg2 (fun b e=> .inl (by injection e with e;exact e.symm)));have S3:Hid (BB≤x3.heap.size):=hide (Nat.le_trans S2.out hg2.size);have cc:=BX3.out.cell (i:=1) rfl;have ff:=BX3.out.frozen 1;clear hr2 hg2)
 obtain ⟨w3,hgg,hB,hZ,hR,hY,hS⟩:∃W,x3.setCell ⟨h,1,none⟩ (.int .u64 tx)=W∧Rw W h 95 [.int .u8 1, .int .u64 tx, .int .u64 0, .int .i64 0, .int .i64 0, .slice none 0 0, .slice none 0 0, .int .u64 0, .slice none 0 0, .bool false]∧Rw W hz 95 [.int .u8 0, .int .u64 0, .int .u64 0, .int .i64 0, .int .i64 0, .slice none 0 0, .slice none 0 0, .int .u64 0, .slice none 0 0, .bool false]∧RdrAt w0 W g s3∧Only2 g h w W∧BB≤W.heap.size:=⟨_,rfl,BX3.out.set 1 _,ZX3.out.far (fun e=>HNE.out.2.2.1 e.symm) _,R3.out.same (Below.heap_setCell x3 ⟨h,1,none⟩ _ g (fun e=>HNE.out.1 e.symm)),Y3.out.set 1 _,Nat.le_trans S3.out (by simp [World.setCell])⟩
 rw [hgg]
 have BX3:=hide hB
 have ZX3:=hide hZ
 have R3:=hide hR
 have Y3:=hide hY
 have S3:=hide hS
 clear hgg hB hZ hR hY hS cc ff
 clear KN
 have cc:=BX3.out.cell (i:=0) rfl
 go_upto_region 5 with (go_at_call 122;(with_reducible refine (KP.out _).mono ?_);rintro e xp ⟨rfl,hxp⟩;have XP:=hide hxp;clear hxp)
 clear cc KP
 obtain ⟨w4,hXQ,hQ,hgg⟩:∃W,Ext w3 W∧Rw W xp.heap.size 162 [.bool false, .bool false, .bool false, .bool false, .bool false]∧xp.alloc (.cells #[.bool false, .bool false, .bool false, .bool false, .bool false] 162)=W:=⟨_,XP.out.trans (Ext.alloc _ _),Rw.new _ _ _,rfl⟩
 rw [hgg]
 obtain ⟨hq,HHQ⟩:∃hq,Hid (xp.heap.size=hq):=⟨_,hide rfl⟩
 rw [HHQ.out] at hQ ⊢
 have BX4:=hide (BX3.out.ext hXQ)
 have ZX4:=hide (ZX3.out.ext hXQ)
 have R4:=hide (R3.out.ext hXQ)
 have Y4:=hide (Y3.out.ext hXQ)
 have S4:Hid (BB≤w4.heap.size):=hide (Nat.le_trans S3.out hXQ.size)
 have QX4:=hide hQ
 have HQN:Hid (hq≠g∧hq≠h):=hide (by have h1:BB≤xp.heap.size:=Nat.le_trans S3.out XP.out.size;have:=HHQ.out;have:=HBL.out;omega)
 clear hgg hXQ hQ
 have q0:=QX4.out.cell (i:=0) rfl
 have q1:=QX4.out.cell (i:=1) rfl
 have q2:=QX4.out.cell (i:=2) rfl
 have q3:=QX4.out.cell (i:=3) rfl
 have q4:=QX4.out.cell (i:=4) rfl
 have z0:=ZX4.out.cell (i:=0) rfl
 have z1:=ZX4.out.cell (i:=1) rfl
 have z2:=ZX4.out.cell (i:=2) rfl
 have z3:=ZX4.out.cell (i:=3) rfl
 have z4:=ZX4.out.cell (i:=4) rfl
 have z5:=ZX4.out.cell (i:=5) rfl
 have z6:=ZX4.out.cell (i:=6) rfl
 have z7:=ZX4.out.cell (i:=7) rfl
 have z8:=ZX4.out.cell (i:=8) rfl
 have z9:=ZX4.out.cell (i:=9) rfl
 have y0:=BX4.out.cell (i:=0) rfl
 have y1:=BX4.out.cell (i:=1) rfl
 have y2:=BX4.out.cell (i:=2) rfl
 have y3:=BX4.out.cell (i:=3) rfl
 have y4:=BX4.out.cell (i:=4) rfl
 have y5:=BX4.out.cell (i:=5) rfl
 have y6:=BX4.out.cell (i:=6) rfl
 have y7:=BX4.out.cell (i:=7) rfl
 have y8:=BX4.out.cell (i:=8) rfl
 have y9:=BX4.out.cell (i:=9) rfl
 have f0:=ZX4.out.frozen 0
 have f1:=ZX4.out.frozen 1
 have f2:=ZX4.out.frozen 2
 have f3:=ZX4.out.frozen 3
 have f4:=ZX4.out.frozen 4
 have f5:=ZX4.out.frozen 5
 have f6:=ZX4.out.frozen 6
 have f7:=ZX4.out.frozen 7
 have f8:=ZX4.out.frozen 8
 have f9:=ZX4.out.frozen 9
 go_wp2
 have ZZ:=((((((((((ZX4.out.set 0 (.int .u8 1)).set 1 (.int .u64 tx)).set 2 (.int .u64 0)).set 3 (.int .i64 0)).set 4 (.int .i64 0)).set 5 (.slice none 0 0)).set 6 (.slice none 0 0)).set 7 (.int .u64 0)).set 8 (.slice none 0 0)).set 9 (.bool false))
 have HS10:=sets_only hz [(0, .int .u8 1),(1, .int .u64 tx),(2, .int .u64 0),(3, .int .i64 0),(4, .int .i64 0),(5, .slice none 0 0),(6, .slice none 0 0),(7, .int .u64 0),(8, .slice none 0 0),(9, .bool false)] w4
 simp only [List.foldl_cons,List.foldl_nil] at HS10
 obtain ⟨wz,hwz⟩:∃wz,((((((((((w4).setCell ⟨hz,0,none⟩ (.int .u8 1)).setCell ⟨hz,1,none⟩ (.int .u64 tx)).setCell ⟨hz,2,none⟩ (.int .u64 0)).setCell ⟨hz,3,none⟩ (.int .i64 0)).setCell ⟨hz,4,none⟩ (.int .i64 0)).setCell ⟨hz,5,none⟩ (.slice none 0 0)).setCell ⟨hz,6,none⟩ (.slice none 0 0)).setCell ⟨hz,7,none⟩ (.int .u64 0)).setCell ⟨hz,8,none⟩ (.slice none 0 0)).setCell ⟨hz,9,none⟩ (.bool false)=wz:=⟨_,rfl⟩
 rw [hwz] at HS10 ZZ ⊢
 obtain ⟨q1,q2,q3,q4,hsame⟩:=HS10
 clear hwz
 have e0:=ZZ.cell (i:=0) rfl
 have e1:=ZZ.cell (i:=1) rfl
 have e2:=ZZ.cell (i:=2) rfl
 have e3:=ZZ.cell (i:=3) rfl
 have e4:=ZZ.cell (i:=4) rfl
 have e5:=ZZ.cell (i:=5) rfl
 have e6:=ZZ.cell (i:=6) rfl
 have e7:=ZZ.cell (i:=7) rfl
 have e8:=ZZ.cell (i:=8) rfl
 have e9:=ZZ.cell (i:=9) rfl
 have HRD:rdRec st=(⟨1,tx,0,0,0, [], [],0, [],false⟩,s3):=by
  simp [rdRec,rcdN,rcdB,rdD,HK.out,HS2.out,HU3.out,HS3.out,hpv,hch,hbf,hnx,hck]
 rw [HRD]
 have YG:w.grownBy wz (some g):=by
  have h1:=Y4.out.to1 HHW.out.2.1
  exact ⟨q1.trans h1.os,q2.trans h1.tape,q3.trans h1.output,Nat.le_trans h1.size (Nat.le_of_eq q4.symm),fun b hb hne=>(hsame b (by have:=HHW.out;omega)).trans (h1.block b hb hne)⟩
 refine bodyPost_ret (v:= .agg #[.int .u8 1, .int .u64 tx, .int .u64 0, .int .i64 0, .int .i64 0, .slice none 0 0, .slice none 0 0, .int .u64 0, .slice none 0 0, .bool false]) (by simp [results,Tryz.results129,go_sem,e0,e1,e2,e3,e4,e5,e6,e7,e8,e9];try rfl) rfl ?_
 exact ⟨_,_,_,rfl,Own.nil _ _,Own.nil _ _,OwnDr.nil _ _,R4.out.same (hsame g (fun e=>HNE.out.2.1 e.symm)),YG,fun b hb=>by cases hb⟩
theorem record_2 (g:Nat) (st:List UInt8×Bool) (w0 w:World) (hx:Ext w0 w) (hg0:w0.heap.size≤g) (hr:RdrAt w0 w g st) (hl:st.1.length≤140737488351232) (hk:num (tk 1 st).1=2):
  Calls Tryz.prog 129 #[.pointer (some ⟨g,0,none⟩)] w (RecP w0 w g (rdRec st)):=by
 have HX:=hide hx
 have HG0:=hide hg0
 have HGL:=hide hr.lt
 have HK:=hide hk
 have HL0:=hide hl
 have R0:=hide hr
 have KP:=hide (fun (W:World)=>(show Calls Tryz.prog 122 #[.int .u8 2] W (fun e w' =>e= .returned (.tuple #[.agg #[.bool true, .bool true, .bool true, .bool false, .bool false], .bool true])∧Ext W w') from partsOf_any 2 W))
 clear hx hg0 hr hl hk
 go_enter Tryz.func129,Tryz.ntmps129
 go_upto_region 2 with fail
 obtain ⟨W1,hX1,hRz,hRh,hgg⟩:∃W1,Ext w W1∧Rw W1 w.heap.size 95 [.int .u8 0, .int .u64 0, .int .u64 0, .int .i64 0, .int .i64 0, .slice none 0 0, .slice none 0 0, .int .u64 0, .slice none 0 0, .bool false]∧Rw W1 (w.heap.size + 1) 95 [.int .u8 0, .int .u64 0, .int .u64 0, .int .i64 0, .int .i64 0, .slice none 0 0, .slice none 0 0, .int .u64 0, .slice none 0 0, .bool false]∧(w.alloc (.cells #[.int .u8 0, .int .u64 0, .int .u64 0, .int .i64 0, .int .i64 0, .slice none 0 0, .slice none 0 0, .int .u64 0, .slice none 0 0, .bool false] 95)).alloc (.cells #[.int .u8 0, .int .u64 0, .int .u64 0, .int .i64 0, .int .i64 0, .slice none 0 0, .slice none 0 0, .int .u64 0, .slice none 0 0, .bool false] 95)=W1:=⟨_,(Ext.alloc _ _).trans (Ext.alloc _ _),(Rw.new w 95 [.int .u8 0, .int .u64 0, .int .u64 0, .int .i64 0, .int .i64 0, .slice none 0 0, .slice none 0 0, .int .u64 0, .slice none 0 0, .bool false]).ext (Ext.alloc _ _),(by have h:=Rw.new (w.alloc (.cells #[.int .u8 0, .int .u64 0, .int .u64 0, .int .i64 0, .int .i64 0, .slice none 0 0, .slice none 0 0, .int .u64 0, .slice none 0 0, .bool false] 95)) 95 [.int .u8 0, .int .u64 0, .int .u64 0, .int .i64 0, .int .i64 0, .slice none 0 0, .slice none 0 0, .int .u64 0, .slice none 0 0, .bool false];rwa [show (w.alloc (.cells #[.int .u8 0, .int .u64 0, .int .u64 0, .int .i64 0, .int .i64 0, .slice none 0 0, .slice none 0 0, .int .u64 0, .slice none 0 0, .bool false] 95)).heap.size=w.heap.size + 1 by simp] at h),rfl⟩
 rw [hgg]
 obtain ⟨hz,HHZ⟩:∃hz,Hid (w.heap.size=hz):=⟨_,hide rfl⟩
 rw [HHZ.out] at hRz hRh ⊢
 obtain ⟨h,HHH⟩:∃h,Hid (hz + 1=h):=⟨_,hide rfl⟩
 rw [HHH.out] at hRh
 try rw [HHH.out]
 have BX1:=hide hRh
 have ZX1:=hide hRz
 have R1:=hide (R0.out.ext hX1)
 have Y1:Hid (Only2 g h w W1):=hide ((Only2.refl g h w).ext hX1)
 have HNE:Hid (h≠g∧hz≠g∧h≠hz∧hz < h):=hide (by have:=HGL.out;have:=HHZ.out;have:=HHH.out;omega)
 have HHW:Hid (w0.heap.size≤h∧w.heap.size≤h∧w.heap.size≤hz):=hide (by have:=HX.out.size;have:=HHZ.out;have:=HHH.out;omega)
 obtain ⟨BB,HBB⟩:∃BB,Hid (W1.heap.size=BB):=⟨_,hide rfl⟩
 have HBL:Hid (h < BB∧hz < BB∧g < BB∧w.heap.size≤BB):=hide (by rw [← HBB.out];exact ⟨BX1.out.lt,ZX1.out.lt,R1.out.lt,hX1.size⟩)
 have S1:Hid (BB≤W1.heap.size):=hide (by rw [HBB.out];exact Nat.le_refl _)
 clear hgg hX1 hRz hRh R0
 have KN:=hide (number_1 g st w0 W1 (Y1.out.ofExt HX.out HG0.out HHW.out.1) R1.out HL0.out)
 rw [HK.out] at KN
 obtain ⟨s2,HS2⟩:∃s,Hid ((tk 1 st).2=s):=⟨_,hide rfl⟩
 rw [HS2.out] at KN
 have HL2:Hid (s2.1.length≤140737488351232):=hide (by rw [← HS2.out];exact Nat.le_trans (tk_left 1 st) HL0.out)
 go_upto_region 3 with (go_at_call 139;(with_reducible refine KN.out.mono ?_);rintro e x2 ⟨_,rfl,rfl,hr2,hg2⟩;have R2:=hide hr2;have BX2:Hid (Rw x2 h 95 [.int .u8 0, .int .u64 0, .int .u64 0, .int .i64 0, .int .i64 0, .slice none 0 0, .slice none 0 0, .int .u64 0, .slice none 0 0, .bool false]):=hide ((hg2.block h BX1.out.lt (fun e=>HNE.out.1 (by injection e))).trans BX1.out);have ZX2:Hid (Rw x2 hz 95 [.int .u8 0, .int .u64 0, .int .u64 0, .int .i64 0, .int .i64 0, .slice none 0 0, .slice none 0 0, .int .u64 0, .slice none 0 0, .bool false]):=hide ((hg2.block hz ZX1.out.lt (fun e=>HNE.out.2.1 (by injection e))).trans ZX1.out);have Y2:Hid (Only2 g h w x2):=hide (Y1.out.grown hg2 (fun b e=> .inl (by injection e with e;exact e.symm)));have S2:Hid (BB≤x2.heap.size):=hide (Nat.le_trans S1.out hg2.size);have cc:=BX2.out.cell (i:=0) rfl;have ff:=BX2.out.frozen 0;clear hr2 hg2)
 obtain ⟨w2,hgg,hB,hZ,hR,hY,hS⟩:∃W,x2.setCell ⟨h,0,none⟩ (.int .u8 2)=W∧Rw W h 95 [.int .u8 2, .int .u64 0, .int .u64 0, .int .i64 0, .int .i64 0, .slice none 0 0, .slice none 0 0, .int .u64 0, .slice none 0 0, .bool false]∧Rw W hz 95 [.int .u8 0, .int .u64 0, .int .u64 0, .int .i64 0, .int .i64 0, .slice none 0 0, .slice none 0 0, .int .u64 0, .slice none 0 0, .bool false]∧RdrAt w0 W g s2∧Only2 g h w W∧BB≤W.heap.size:=⟨_,rfl,BX2.out.set 0 _,ZX2.out.far (fun e=>HNE.out.2.2.1 e.symm) _,R2.out.same (Below.heap_setCell x2 ⟨h,0,none⟩ _ g (fun e=>HNE.out.1 e.symm)),Y2.out.set 0 _,Nat.le_trans S2.out (by simp [World.setCell])⟩
 rw [hgg]
 have BX2:=hide hB
 have ZX2:=hide hZ
 have R2:=hide hR
 have Y2:=hide hY
 have S2:=hide hS
 clear hgg hB hZ hR hY hS cc ff
 clear KN
 have KN:=hide (number_8 g s2 w0 w2 (Y2.out.ofExt HX.out HG0.out HHW.out.1) R2.out HL2.out)
 obtain ⟨tx,HU3⟩:∃u,Hid (num (tk 8 s2).1=u):=⟨_,hide rfl⟩
 rw [HU3.out] at KN
 obtain ⟨s3,HS3⟩:∃s,Hid ((tk 8 s2).2=s):=⟨_,hide rfl⟩
 rw [HS3.out] at KN
 have HL3:Hid (s3.1.length≤140737488351232):=hide (by rw [← HS3.out];exact Nat.le_trans (tk_left 8 s2) HL2.out)
 go_upto_region 4 with (go_at_call 139;(with_reducible refine KN.out.mono ?_);rintro e x3 ⟨_,rfl,rfl,hr2,hg2⟩;have R3:=hide hr2;have BX3:Hid (Rw x3 h 95 [.int .u8 2, .int .u64 0, .int .u64 0, .int .i64 0, .int .i64 0, .slice none 0 0, .slice none 0 0, .int .u64 0, .slice none 0 0, .bool false]):=hide ((hg2.block h BX2.out.lt (fun e=>HNE.out.1 (by injection e))).trans BX2.out);have ZX3:Hid (Rw x3 hz 95 [.int .u8 0, .int .u64 0, .int .u64 0, .int .i64 0, .int .i64 0, .slice none 0 0, .slice none 0 0, .int .u64 0, .slice none 0 0, .bool false]):=hide ((hg2.block hz ZX2.out.lt (fun e=>HNE.out.2.1 (by injection e))).trans ZX2.out);have Y3:Hid (Only2 g h w x3):=hide (Y2.out.grown hg2 (fun b e=> .inl (by injection e with e;exact e.symm)));have S3:Hid (BB≤x3.heap.size):=hide (Nat.le_trans S2.out hg2.size);have cc:=BX3.out.cell (i:=1) rfl;have ff:=BX3.out.frozen 1;clear hr2 hg2)
 obtain ⟨w3,hgg,hB,hZ,hR,hY,hS⟩:∃W,x3.setCell ⟨h,1,none⟩ (.int .u64 tx)=W∧Rw W h 95 [.int .u8 2, .int .u64 tx, .int .u64 0, .int .i64 0, .int .i64 0, .slice none 0 0, .slice none 0 0, .int .u64 0, .slice none 0 0, .bool false]∧Rw W hz 95 [.int .u8 0, .int .u64 0, .int .u64 0, .int .i64 0, .int .i64 0, .slice none 0 0, .slice none 0 0, .int .u64 0, .slice none 0 0, .bool false]∧RdrAt w0 W g s3∧Only2 g h w W∧BB≤W.heap.size:=⟨_,rfl,BX3.out.set 1 _,ZX3.out.far (fun e=>HNE.out.2.2.1 e.symm) _,R3.out.same (Below.heap_setCell x3 ⟨h,1,none⟩ _ g (fun e=>HNE.out.1 e.symm)),Y3.out.set 1 _,Nat.le_trans S3.out (by simp [World.setCell])⟩
 rw [hgg]
 have BX3:=hide hB
 have ZX3:=hide hZ
 have R3:=hide hR
 have Y3:=hide hY
 have S3:=hide hS
 clear hgg hB hZ hR hY hS cc ff
 clear KN
 have cc:=BX3.out.cell (i:=0) rfl
 go_upto_region 5 with (go_at_call 122;(with_reducible refine (KP.out _).mono ?_);rintro e xp ⟨rfl,hxp⟩;have XP:=hide hxp;clear hxp)
 clear cc KP
 obtain ⟨w4,hXQ,hQ,hgg⟩:∃W,Ext w3 W∧Rw W xp.heap.size 162 [.bool true, .bool true, .bool true, .bool false, .bool false]∧xp.alloc (.cells #[.bool true, .bool true, .bool true, .bool false, .bool false] 162)=W:=⟨_,XP.out.trans (Ext.alloc _ _),Rw.new _ _ _,rfl⟩
 rw [hgg]
 obtain ⟨hq,HHQ⟩:∃hq,Hid (xp.heap.size=hq):=⟨_,hide rfl⟩
 rw [HHQ.out] at hQ ⊢
 have BX4:=hide (BX3.out.ext hXQ)
 have ZX4:=hide (ZX3.out.ext hXQ)
 have R4:=hide (R3.out.ext hXQ)
 have Y4:=hide (Y3.out.ext hXQ)
 have S4:Hid (BB≤w4.heap.size):=hide (Nat.le_trans S3.out hXQ.size)
 have QX4:=hide hQ
 have HQN:Hid (hq≠g∧hq≠h):=hide (by have h1:BB≤xp.heap.size:=Nat.le_trans S3.out XP.out.size;have:=HHQ.out;have:=HBL.out;omega)
 clear hgg hXQ hQ
 have q0:=QX4.out.cell (i:=0) rfl
 have q1:=QX4.out.cell (i:=1) rfl
 have q2:=QX4.out.cell (i:=2) rfl
 have q3:=QX4.out.cell (i:=3) rfl
 have q4:=QX4.out.cell (i:=4) rfl
 have KN:=hide (number_8 g s3 w0 w4 (Y4.out.ofExt HX.out HG0.out HHW.out.1) R4.out HL3.out)
 obtain ⟨pv,HU5⟩:∃u,Hid (num (tk 8 s3).1=u):=⟨_,hide rfl⟩
 rw [HU5.out] at KN
 obtain ⟨s5,HS5⟩:∃s,Hid ((tk 8 s3).2=s):=⟨_,hide rfl⟩
 rw [HS5.out] at KN
 have HL5:Hid (s5.1.length≤140737488351232):=hide (by rw [← HS5.out];exact Nat.le_trans (tk_left 8 s3) HL3.out)
 go_upto_region 7 with (go_at_call 139;(with_reducible refine KN.out.mono ?_);rintro e x5 ⟨_,rfl,rfl,hr2,hg2⟩;have R5:=hide hr2;have BX5:Hid (Rw x5 h 95 [.int .u8 2, .int .u64 tx, .int .u64 0, .int .i64 0, .int .i64 0, .slice none 0 0, .slice none 0 0, .int .u64 0, .slice none 0 0, .bool false]):=hide ((hg2.block h BX4.out.lt (fun e=>HNE.out.1 (by injection e))).trans BX4.out);have ZX5:Hid (Rw x5 hz 95 [.int .u8 0, .int .u64 0, .int .u64 0, .int .i64 0, .int .i64 0, .slice none 0 0, .slice none 0 0, .int .u64 0, .slice none 0 0, .bool false]):=hide ((hg2.block hz ZX4.out.lt (fun e=>HNE.out.2.1 (by injection e))).trans ZX4.out);have Y5:Hid (Only2 g h w x5):=hide (Y4.out.grown hg2 (fun b e=> .inl (by injection e with e;exact e.symm)));have S5:Hid (BB≤x5.heap.size):=hide (Nat.le_trans S4.out hg2.size);have cc:=BX5.out.cell (i:=2) rfl;have ff:=BX5.out.frozen 2;have QX5:Hid (Rw _ hq 162 [.bool true, .bool true, .bool true, .bool false, .bool false]):=hide ((hg2.block hq QX4.out.lt (fun e=>HQN.out.1 (by injection e))).trans QX4.out);clear hr2 hg2)
 obtain ⟨w5,hgg,hB,hZ,hR,hY,hS⟩:∃W,x5.setCell ⟨h,2,none⟩ (.int .u64 pv)=W∧Rw W h 95 [.int .u8 2, .int .u64 tx, .int .u64 pv, .int .i64 0, .int .i64 0, .slice none 0 0, .slice none 0 0, .int .u64 0, .slice none 0 0, .bool false]∧Rw W hz 95 [.int .u8 0, .int .u64 0, .int .u64 0, .int .i64 0, .int .i64 0, .slice none 0 0, .slice none 0 0, .int .u64 0, .slice none 0 0, .bool false]∧RdrAt w0 W g s5∧Only2 g h w W∧BB≤W.heap.size:=⟨_,rfl,BX5.out.set 2 _,ZX5.out.far (fun e=>HNE.out.2.2.1 e.symm) _,R5.out.same (Below.heap_setCell x5 ⟨h,2,none⟩ _ g (fun e=>HNE.out.1 e.symm)),Y5.out.set 2 _,Nat.le_trans S5.out (by simp [World.setCell])⟩
 rw [hgg]
 have QX5:=hide (hgg▸(QX5.out.far (p:=⟨h,2,none⟩) HQN.out.2 (.int .u64 pv)))
 have BX5:=hide hB
 have ZX5:=hide hZ
 have R5:=hide hR
 have Y5:=hide hY
 have S5:=hide hS
 clear hgg hB hZ hR hY hS cc ff
 clear KN
 clear q0 q1 q2 q3 q4
 have q0:=QX5.out.cell (i:=0) rfl
 have q1:=QX5.out.cell (i:=1) rfl
 have q2:=QX5.out.cell (i:=2) rfl
 have q3:=QX5.out.cell (i:=3) rfl
 have q4:=QX5.out.cell (i:=4) rfl
 have KN:=hide (number_2 g s5 w0 w5 (Y5.out.ofExt HX.out HG0.out HHW.out.1) R5.out HL5.out)
 obtain ⟨pg,HU6⟩:∃u,Hid (num (tk 2 s5).1=u):=⟨_,hide rfl⟩
 have bpg:0≤(pg:Int)∧(pg:Int) < 65536:=by have h:=num_lt 2 s5;rw [HU6.out] at h;exact ⟨h.1,by have:=h.2;omega⟩
 have wpg:IntKind.i64.wrap (pg:Int)=(pg:Int):=by rw [IntKind.wrap_i64];omega
 rw [HU6.out] at KN
 obtain ⟨s6,HS6⟩:∃s,Hid ((tk 2 s5).2=s):=⟨_,hide rfl⟩
 rw [HS6.out] at KN
 have HL6:Hid (s6.1.length≤140737488351232):=hide (by rw [← HS6.out];exact Nat.le_trans (tk_left 2 s5) HL5.out)
 go_upto_region 9 with (go_at_call 139;(with_reducible refine KN.out.mono ?_);rintro e x6 ⟨_,rfl,rfl,hr2,hg2⟩;have R6:=hide hr2;have BX6:Hid (Rw x6 h 95 [.int .u8 2, .int .u64 tx, .int .u64 pv, .int .i64 0, .int .i64 0, .slice none 0 0, .slice none 0 0, .int .u64 0, .slice none 0 0, .bool false]):=hide ((hg2.block h BX5.out.lt (fun e=>HNE.out.1 (by injection e))).trans BX5.out);have ZX6:Hid (Rw x6 hz 95 [.int .u8 0, .int .u64 0, .int .u64 0, .int .i64 0, .int .i64 0, .slice none 0 0, .slice none 0 0, .int .u64 0, .slice none 0 0, .bool false]):=hide ((hg2.block hz ZX5.out.lt (fun e=>HNE.out.2.1 (by injection e))).trans ZX5.out);have Y6:Hid (Only2 g h w x6):=hide (Y5.out.grown hg2 (fun b e=> .inl (by injection e with e;exact e.symm)));have S6:Hid (BB≤x6.heap.size):=hide (Nat.le_trans S5.out hg2.size);have cc:=BX6.out.cell (i:=3) rfl;have ff:=BX6.out.frozen 3;have QX6:Hid (Rw _ hq 162 [.bool true, .bool true, .bool true, .bool false, .bool false]):=hide ((hg2.block hq QX5.out.lt (fun e=>HQN.out.1 (by injection e))).trans QX5.out);clear hr2 hg2)
 obtain ⟨w6,hgg,hB,hZ,hR,hY,hS⟩:∃W,x6.setCell ⟨h,3,none⟩ (.int .i64 pg)=W∧Rw W h 95 [.int .u8 2, .int .u64 tx, .int .u64 pv, .int .i64 pg, .int .i64 0, .slice none 0 0, .slice none 0 0, .int .u64 0, .slice none 0 0, .bool false]∧Rw W hz 95 [.int .u8 0, .int .u64 0, .int .u64 0, .int .i64 0, .int .i64 0, .slice none 0 0, .slice none 0 0, .int .u64 0, .slice none 0 0, .bool false]∧RdrAt w0 W g s6∧Only2 g h w W∧BB≤W.heap.size:=⟨_,rfl,BX6.out.set 3 _,ZX6.out.far (fun e=>HNE.out.2.2.1 e.symm) _,R6.out.same (Below.heap_setCell x6 ⟨h,3,none⟩ _ g (fun e=>HNE.out.1 e.symm)),Y6.out.set 3 _,Nat.le_trans S6.out (by simp [World.setCell])⟩
 rw [hgg]
 have QX6:=hide (hgg▸(QX6.out.far (p:=⟨h,3,none⟩) HQN.out.2 (.int .i64 pg)))
 have BX6:=hide hB
 have ZX6:=hide hZ
 have R6:=hide hR
 have Y6:=hide hY
 have S6:=hide hS
 clear hgg hB hZ hR hY hS cc ff
 clear KN
 clear q0 q1 q2 q3 q4
 have q0:=QX6.out.cell (i:=0) rfl
 have q1:=QX6.out.cell (i:=1) rfl
 have q2:=QX6.out.cell (i:=2) rfl
 have q3:=QX6.out.cell (i:=3) rfl
 have q4:=QX6.out.cell (i:=4) rfl
 have KN:=hide (number_2 g s6 w0 w6 (Y6.out.ofExt HX.out HG0.out HHW.out.1) R6.out HL6.out)
 obtain ⟨off,HU7⟩:∃u,Hid (num (tk 2 s6).1=u):=⟨_,hide rfl⟩
 have boff:0≤(off:Int)∧(off:Int) < 65536:=by have h:=num_lt 2 s6;rw [HU7.out] at h;exact ⟨h.1,by have:=h.2;omega⟩
 have woff:IntKind.i64.wrap (off:Int)=(off:Int):=by rw [IntKind.wrap_i64];omega
 rw [HU7.out] at KN
 obtain ⟨s7,HS7⟩:∃s,Hid ((tk 2 s6).2=s):=⟨_,hide rfl⟩
 rw [HS7.out] at KN
 have HL7:Hid (s7.1.length≤140737488351232):=hide (by rw [← HS7.out];exact Nat.le_trans (tk_left 2 s6) HL6.out)
 go_upto_region 10 with (go_at_call 139;(with_reducible refine KN.out.mono ?_);rintro e x7 ⟨_,rfl,rfl,hr2,hg2⟩;have R7:=hide hr2;have BX7:Hid (Rw x7 h 95 [.int .u8 2, .int .u64 tx, .int .u64 pv, .int .i64 pg, .int .i64 0, .slice none 0 0, .slice none 0 0, .int .u64 0, .slice none 0 0, .bool false]):=hide ((hg2.block h BX6.out.lt (fun e=>HNE.out.1 (by injection e))).trans BX6.out);have ZX7:Hid (Rw x7 hz 95 [.int .u8 0, .int .u64 0, .int .u64 0, .int .i64 0, .int .i64 0, .slice none 0 0, .slice none 0 0, .int .u64 0, .slice none 0 0, .bool false]):=hide ((hg2.block hz ZX6.out.lt (fun e=>HNE.out.2.1 (by injection e))).trans ZX6.out);have Y7:Hid (Only2 g h w x7):=hide (Y6.out.grown hg2 (fun b e=> .inl (by injection e with e;exact e.symm)));have S7:Hid (BB≤x7.heap.size):=hide (Nat.le_trans S6.out hg2.size);have cc:=BX7.out.cell (i:=4) rfl;have ff:=BX7.out.frozen 4;have QX7:Hid (Rw _ hq 162 [.bool true, .bool true, .bool true, .bool false, .bool false]):=hide ((hg2.block hq QX6.out.lt (fun e=>HQN.out.1 (by injection e))).trans QX6.out);clear hr2 hg2)
 obtain ⟨w7,hgg,hB,hZ,hR,hY,hS⟩:∃W,x7.setCell ⟨h,4,none⟩ (.int .i64 off)=W∧Rw W h 95 [.int .u8 2, .int .u64 tx, .int .u64 pv, .int .i64 pg, .int .i64 off, .slice none 0 0, .slice none 0 0, .int .u64 0, .slice none 0 0, .bool false]∧Rw W hz 95 [.int .u8 0, .int .u64 0, .int .u64 0, .int .i64 0, .int .i64 0, .slice none 0 0, .slice none 0 0, .int .u64 0, .slice none 0 0, .bool false]∧RdrAt w0 W g s7∧Only2 g h w W∧BB≤W.heap.size:=⟨_,rfl,BX7.out.set 4 _,ZX7.out.far (fun e=>HNE.out.2.2.1 e.symm) _,R7.out.same (Below.heap_setCell x7 ⟨h,4,none⟩ _ g (fun e=>HNE.out.1 e.symm)),Y7.out.set 4 _,Nat.le_trans S7.out (by simp [World.setCell])⟩
 rw [hgg]
 have QX7:=hide (hgg▸(QX7.out.far (p:=⟨h,4,none⟩) HQN.out.2 (.int .i64 off)))
 have BX7:=hide hB
 have ZX7:=hide hZ
 have R7:=hide hR
 have Y7:=hide hY
 have S7:=hide hS
 clear hgg hB hZ hR hY hS cc ff
 clear KN
 clear q0 q1 q2 q3 q4
 have q0:=QX7.out.cell (i:=0) rfl
 have q1:=QX7.out.cell (i:=1) rfl
 have q2:=QX7.out.cell (i:=2) rfl
 have q3:=QX7.out.cell (i:=3) rfl
 have q4:=QX7.out.cell (i:=4) rfl
 have KN:=hide (number_2 g s7 w0 w7 (Y7.out.ofExt HX.out HG0.out HHW.out.1) R7.out HL7.out)
 obtain ⟨sz,HU8⟩:∃u:Nat,Hid (num (tk 2 s7).1=(u:Int)):=by
  obtain ⟨u,hu⟩:=Int.eq_ofNat_of_zero_le (num_lt 2 s7).1
  exact ⟨u,hide hu⟩
 have bsz:0≤(sz:Int)∧(sz:Int) < 65536:=by have h:=num_lt 2 s7;rw [HU8.out] at h;exact ⟨h.1,by have:=h.2;omega⟩
 have wsz:IntKind.i64.wrap (sz:Int)=(sz:Int):=by rw [IntKind.wrap_i64];omega
 rw [HU8.out] at KN
 obtain ⟨s8,HS8⟩:∃s,Hid ((tk 2 s7).2=s):=⟨_,hide rfl⟩
 rw [HS8.out] at KN
 have HL8:Hid (s8.1.length≤140737488351232):=hide (by rw [← HS8.out];exact Nat.le_trans (tk_left 2 s7) HL7.out)
 go_upto_region 11 with (go_at_call 139;(with_reducible refine KN.out.mono ?_);rintro e w8 ⟨_,rfl,rfl,hr2,hg2⟩;have R8:=hide hr2;have BX8:Hid (Rw w8 h 95 [.int .u8 2, .int .u64 tx, .int .u64 pv, .int .i64 pg, .int .i64 off, .slice none 0 0, .slice none 0 0, .int .u64 0, .slice none 0 0, .bool false]):=hide ((hg2.block h BX7.out.lt (fun e=>HNE.out.1 (by injection e))).trans BX7.out);have ZX8:Hid (Rw w8 hz 95 [.int .u8 0, .int .u64 0, .int .u64 0, .int .i64 0, .int .i64 0, .slice none 0 0, .slice none 0 0, .int .u64 0, .slice none 0 0, .bool false]):=hide ((hg2.block hz ZX7.out.lt (fun e=>HNE.out.2.1 (by injection e))).trans ZX7.out);have Y8:Hid (Only2 g h w w8):=hide (Y7.out.grown hg2 (fun b e=> .inl (by injection e with e;exact e.symm)));have S8:Hid (BB≤w8.heap.size):=hide (Nat.le_trans S7.out hg2.size);have QX8:Hid (Rw _ hq 162 [.bool true, .bool true, .bool true, .bool false, .bool false]):=hide ((hg2.block hq QX7.out.lt (fun e=>HQN.out.1 (by injection e))).trans QX7.out);clear hr2 hg2)
 clear KN
 clear q0 q1 q2 q3 q4
 have q0:=QX8.out.cell (i:=0) rfl
 have q1:=QX8.out.cell (i:=1) rfl
 have q2:=QX8.out.cell (i:=2) rfl
 have q3:=QX8.out.cell (i:=3) rfl
 have q4:=QX8.out.cell (i:=4) rfl
 have KN:=hide (take_any g sz s8.1 s8.2 w0 w8 (Y8.out.ofExt HX.out HG0.out HHW.out.1) R8.out HL8.out)
 rw [show (s8.1,s8.2)=s8 from rfl] at KN
 obtain ⟨bf,HU9⟩:∃u,Hid ((tk sz s8).1=u):=⟨_,hide rfl⟩
 obtain ⟨s9,HS9⟩:∃s,Hid ((tk sz s8).2=s):=⟨_,hide rfl⟩
 rw [HU9.out,HS9.out] at KN
 have HL9:Hid (s9.1.length≤140737488351232):=hide (by rw [← HS9.out];exact Nat.le_trans (tk_left sz s8) HL8.out)
 go_upto_region 13 with (go_at_call 140;(with_reducible refine KN.out.mono ?_);rintro e x9 ⟨v5,rfl,ho2,hr2,hg2⟩;obtain ⟨AV5,cv5,hv5,-,-⟩:=Own.bytes ho2;subst hv5;have OV5:=hide (own_mono2 ho2 (Nat.le_trans S8.out (Nat.le_refl _)));clear ho2;have R9:=hide hr2;have BX9:Hid (Rw x9 h 95 [.int .u8 2, .int .u64 tx, .int .u64 pv, .int .i64 pg, .int .i64 off, .slice none 0 0, .slice none 0 0, .int .u64 0, .slice none 0 0, .bool false]):=hide ((hg2.block h BX8.out.lt (fun e=>HNE.out.1 (by injection e))).trans BX8.out);have ZX9:Hid (Rw x9 hz 95 [.int .u8 0, .int .u64 0, .int .u64 0, .int .i64 0, .int .i64 0, .slice none 0 0, .slice none 0 0, .int .u64 0, .slice none 0 0, .bool false]):=hide ((hg2.block hz ZX8.out.lt (fun e=>HNE.out.2.1 (by injection e))).trans ZX8.out);have Y9:Hid (Only2 g h w x9):=hide (Y8.out.grown hg2 (fun b e=> .inl (by injection e with e;exact e.symm)));have S9:Hid (BB≤x9.heap.size):=hide (Nat.le_trans S8.out hg2.size);have cc:=BX9.out.cell (i:=5) rfl;have ff:=BX9.out.frozen 5;have QX9:Hid (Rw _ hq 162 [.bool true, .bool true, .bool true, .bool false, .bool false]):=hide ((hg2.block hq QX8.out.lt (fun e=>HQN.out.1 (by injection e))).trans QX8.out);clear hr2 hg2)
 obtain ⟨w9,hgg,hB,hZ,hR,hY,hS,hO5⟩:∃W,x9.setCell ⟨h,5,none⟩ (.slice AV5 bf.length cv5)=W∧Rw W h 95 [.int .u8 2, .int .u64 tx, .int .u64 pv, .int .i64 pg, .int .i64 off, .slice AV5 bf.length cv5, .slice none 0 0, .int .u64 0, .slice none 0 0, .bool false]∧Rw W hz 95 [.int .u8 0, .int .u64 0, .int .u64 0, .int .i64 0, .int .i64 0, .slice none 0 0, .slice none 0 0, .int .u64 0, .slice none 0 0, .bool false]∧RdrAt w0 W g s9∧Only2 g h w W∧BB≤W.heap.size∧Own W BB (.slice AV5 bf.length cv5) bf:=⟨_,rfl,BX9.out.set 5 _,ZX9.out.far (fun e=>HNE.out.2.2.1 e.symm) _,R9.out.same (Below.heap_setCell x9 ⟨h,5,none⟩ _ g (fun e=>HNE.out.1 e.symm)),Y9.out.set 5 _,Nat.le_trans S9.out (by simp [World.setCell]),OV5.out.sameB (fun b hb hlt=>Below.heap_setCell x9 ⟨h,5,none⟩ _ b (fun e=>by have:=HBL.out;simp only at e;omega))⟩
 rw [hgg]
 have QX9:=hide (hgg▸(QX9.out.far (p:=⟨h,5,none⟩) HQN.out.2 (.slice AV5 bf.length cv5)))
 have BX9:=hide hB
 have ZX9:=hide hZ
 have R9:=hide hR
 have Y9:=hide hY
 have S9:=hide hS
 have OV5:=hide hO5
 clear hgg hB hZ hR hY hS cc ff hO5
 clear KN
 clear q0 q1 q2 q3 q4
 have q0:=QX9.out.cell (i:=0) rfl
 have q1:=QX9.out.cell (i:=1) rfl
 have q2:=QX9.out.cell (i:=2) rfl
 have q3:=QX9.out.cell (i:=3) rfl
 have q4:=QX9.out.cell (i:=4) rfl
 have KN:=hide (take_any g sz s9.1 s9.2 w0 w9 (Y9.out.ofExt HX.out HG0.out HHW.out.1) R9.out HL9.out)
 rw [show (s9.1,s9.2)=s9 from rfl] at KN
 obtain ⟨af,HU10⟩:∃u,Hid ((tk sz s9).1=u):=⟨_,hide rfl⟩
 obtain ⟨s10,HS10⟩:∃s,Hid ((tk sz s9).2=s):=⟨_,hide rfl⟩
 rw [HU10.out,HS10.out] at KN
 have HL10:Hid (s10.1.length≤140737488351232):=hide (by rw [← HS10.out];exact Nat.le_trans (tk_left sz s9) HL9.out)
 go_upto_region 14 with (go_at_call 140;(with_reducible refine KN.out.mono ?_);rintro e x10 ⟨v6,rfl,ho2,hr2,hg2⟩;obtain ⟨AV6,cv6,hv6,-,-⟩:=Own.bytes ho2;subst hv6;have OV6:=hide (own_mono2 ho2 (Nat.le_trans S9.out (Nat.le_refl _)));have DJ:Hid (∀b,(Value.slice AV5 bf.length cv5).ownBlock=some b→(Value.slice AV6 af.length cv6).ownBlock≠some b):=hide (fun b hb e=>by have h1:=(OV5.out.atB b hb).2;have h2:=(ho2.atB b e).1;omega);clear ho2;have OV5:=hide (OV5.out.sameB (fun b hb hlt=>hg2.block b hlt (fun e=>by injection e with e;have:=HBL.out;omega)));have R10:=hide hr2;have BX10:Hid (Rw x10 h 95 [.int .u8 2, .int .u64 tx, .int .u64 pv, .int .i64 pg, .int .i64 off, .slice AV5 bf.length cv5, .slice none 0 0, .int .u64 0, .slice none 0 0, .bool false]):=hide ((hg2.block h BX9.out.lt (fun e=>HNE.out.1 (by injection e))).trans BX9.out);have ZX10:Hid (Rw x10 hz 95 [.int .u8 0, .int .u64 0, .int .u64 0, .int .i64 0, .int .i64 0, .slice none 0 0, .slice none 0 0, .int .u64 0, .slice none 0 0, .bool false]):=hide ((hg2.block hz ZX9.out.lt (fun e=>HNE.out.2.1 (by injection e))).trans ZX9.out);have Y10:Hid (Only2 g h w x10):=hide (Y9.out.grown hg2 (fun b e=> .inl (by injection e with e;exact e.symm)));have S10:Hid (BB≤x10.heap.size):=hide (Nat.le_trans S9.out hg2.size);have cc:=BX10.out.cell (i:=6) rfl;have ff:=BX10.out.frozen 6;have QX10:Hid (Rw _ hq 162 [.bool true, .bool true, .bool true, .bool false, .bool false]):=hide ((hg2.block hq QX9.out.lt (fun e=>HQN.out.1 (by injection e))).trans QX9.out);clear hr2 hg2)
 obtain ⟨w10,hgg,hB,hZ,hR,hY,hS,hO5,hO6⟩:∃W,x10.setCell ⟨h,6,none⟩ (.slice AV6 af.length cv6)=W∧Rw W h 95 [.int .u8 2, .int .u64 tx, .int .u64 pv, .int .i64 pg, .int .i64 off, .slice AV5 bf.length cv5, .slice AV6 af.length cv6, .int .u64 0, .slice none 0 0, .bool false]∧Rw W hz 95 [.int .u8 0, .int .u64 0, .int .u64 0, .int .i64 0, .int .i64 0, .slice none 0 0, .slice none 0 0, .int .u64 0, .slice none 0 0, .bool false]∧RdrAt w0 W g s10∧Only2 g h w W∧BB≤W.heap.size∧Own W BB (.slice AV5 bf.length cv5) bf∧Own W BB (.slice AV6 af.length cv6) af:=⟨_,rfl,BX10.out.set 6 _,ZX10.out.far (fun e=>HNE.out.2.2.1 e.symm) _,R10.out.same (Below.heap_setCell x10 ⟨h,6,none⟩ _ g (fun e=>HNE.out.1 e.symm)),Y10.out.set 6 _,Nat.le_trans S10.out (by simp [World.setCell]),OV5.out.sameB (fun b hb hlt=>Below.heap_setCell x10 ⟨h,6,none⟩ _ b (fun e=>by have:=HBL.out;simp only at e;omega)),OV6.out.sameB (fun b hb hlt=>Below.heap_setCell x10 ⟨h,6,none⟩ _ b (fun e=>by have:=HBL.out;simp only at e;omega))⟩
 rw [hgg]
 have QX10:=hide (hgg▸(QX10.out.far (p:=⟨h,6,none⟩) HQN.out.2 (.slice AV6 af.length cv6)))
 have BX10:=hide hB
 have ZX10:=hide hZ
 have R10:=hide hR
 have Y10:=hide hY
 have S10:=hide hS
 have OV5:=hide hO5
 have OV6:=hide hO6
 clear hgg hB hZ hR hY hS cc ff hO5 hO6
 clear KN
 clear q0 q1 q2 q3 q4
 have q0:=QX10.out.cell (i:=0) rfl
 have q1:=QX10.out.cell (i:=1) rfl
 have q2:=QX10.out.cell (i:=2) rfl
 have q3:=QX10.out.cell (i:=3) rfl
 have q4:=QX10.out.cell (i:=4) rfl
 have z0:=ZX10.out.cell (i:=0) rfl
 have z1:=ZX10.out.cell (i:=1) rfl
 have z2:=ZX10.out.cell (i:=2) rfl
 have z3:=ZX10.out.cell (i:=3) rfl
 have z4:=ZX10.out.cell (i:=4) rfl
 have z5:=ZX10.out.cell (i:=5) rfl
 have z6:=ZX10.out.cell (i:=6) rfl
 have z7:=ZX10.out.cell (i:=7) rfl
 have z8:=ZX10.out.cell (i:=8) rfl
 have z9:=ZX10.out.cell (i:=9) rfl
 have y0:=BX10.out.cell (i:=0) rfl
 have y1:=BX10.out.cell (i:=1) rfl
 have y2:=BX10.out.cell (i:=2) rfl
 have y3:=BX10.out.cell (i:=3) rfl
 have y4:=BX10.out.cell (i:=4) rfl
 have y5:=BX10.out.cell (i:=5) rfl
 have y6:=BX10.out.cell (i:=6) rfl
 have y7:=BX10.out.cell (i:=7) rfl
 have y8:=BX10.out.cell (i:=8) rfl
 have y9:=BX10.out.cell (i:=9) rfl
 have f0:=ZX10.out.frozen 0
 have f1:=ZX10.out.frozen 1
 have f2:=ZX10.out.frozen 2
 have f3:=ZX10.out.frozen 3
 have f4:=ZX10.out.frozen 4
 have f5:=ZX10.out.frozen 5
 have f6:=ZX10.out.frozen 6
 have f7:=ZX10.out.frozen 7
 have f8:=ZX10.out.frozen 8
 have f9:=ZX10.out.frozen 9
 go_wp2
 have ZZ:=((((((((((ZX10.out.set 0 (.int .u8 2)).set 1 (.int .u64 tx)).set 2 (.int .u64 pv)).set 3 (.int .i64 pg)).set 4 (.int .i64 off)).set 5 (.slice AV5 bf.length cv5)).set 6 (.slice AV6 af.length cv6)).set 7 (.int .u64 0)).set 8 (.slice none 0 0)).set 9 (.bool false))
 have HS10:=sets_only hz [(0, .int .u8 2),(1, .int .u64 tx),(2, .int .u64 pv),(3, .int .i64 pg),(4, .int .i64 off),(5, .slice AV5 bf.length cv5),(6, .slice AV6 af.length cv6),(7, .int .u64 0),(8, .slice none 0 0),(9, .bool false)] w10
 simp only [List.foldl_cons,List.foldl_nil] at HS10
 obtain ⟨wz,hwz⟩:∃wz,((((((((((w10).setCell ⟨hz,0,none⟩ (.int .u8 2)).setCell ⟨hz,1,none⟩ (.int .u64 tx)).setCell ⟨hz,2,none⟩ (.int .u64 pv)).setCell ⟨hz,3,none⟩ (.int .i64 pg)).setCell ⟨hz,4,none⟩ (.int .i64 off)).setCell ⟨hz,5,none⟩ (.slice AV5 bf.length cv5)).setCell ⟨hz,6,none⟩ (.slice AV6 af.length cv6)).setCell ⟨hz,7,none⟩ (.int .u64 0)).setCell ⟨hz,8,none⟩ (.slice none 0 0)).setCell ⟨hz,9,none⟩ (.bool false)=wz:=⟨_,rfl⟩
 rw [hwz] at HS10 ZZ ⊢
 obtain ⟨q1,q2,q3,q4,hsame⟩:=HS10
 clear hwz
 have e0:=ZZ.cell (i:=0) rfl
 have e1:=ZZ.cell (i:=1) rfl
 have e2:=ZZ.cell (i:=2) rfl
 have e3:=ZZ.cell (i:=3) rfl
 have e4:=ZZ.cell (i:=4) rfl
 have e5:=ZZ.cell (i:=5) rfl
 have e6:=ZZ.cell (i:=6) rfl
 have e7:=ZZ.cell (i:=7) rfl
 have e8:=ZZ.cell (i:=8) rfl
 have e9:=ZZ.cell (i:=9) rfl
 have HRD:rdRec st=(⟨2,tx,pv,pg,off,bf,af,0, [],false⟩,s10):=by
  simp [rdRec,rcdN,rcdB,rdD,HK.out,HS2.out,HU3.out,HS3.out,HU5.out,HS5.out,HU6.out,HS6.out,HU7.out,HS7.out,HU8.out,HS8.out,HU9.out,HS9.out,HU10.out,HS10.out,hpv,hch,hbf,hnx,hck]
 rw [HRD]
 have YG:w.grownBy wz (some g):=by
  have h1:=Y10.out.to1 HHW.out.2.1
  exact ⟨q1.trans h1.os,q2.trans h1.tape,q3.trans h1.output,Nat.le_trans h1.size (Nat.le_of_eq q4.symm),fun b hb hne=>(hsame b (by have:=HHW.out;omega)).trans (h1.block b hb hne)⟩
 refine bodyPost_ret (v:= .agg #[.int .u8 2, .int .u64 tx, .int .u64 pv, .int .i64 pg, .int .i64 off, .slice AV5 bf.length cv5, .slice AV6 af.length cv6, .int .u64 0, .slice none 0 0, .bool false]) (by simp [results,Tryz.results129,go_sem,e0,e1,e2,e3,e4,e5,e6,e7,e8,e9];try rfl) rfl ?_
 exact ⟨_,_,_,rfl,own_mono2 (OV5.out.sameB (fun b hb _=>hsame b (by have:=HBL.out;omega))) HBL.out.2.2.2,own_mono2 (OV6.out.sameB (fun b hb _=>hsame b (by have:=HBL.out;omega))) HBL.out.2.2.2,OwnDr.nil _ _,R10.out.same (hsame g (fun e=>HNE.out.2.1 e.symm)),YG,DJ.out⟩
end Go.Proofs.YthmdmgnhfhpcaaaGreatDoor
