/-
  What the card wants, part 2: LgE, LgW, Grs, LgU, LgR, LgO, LgF, LgH, LgG, AnyB, Stay, LgJ, LgK, LgT.
-/
import Derived.Deep.RegionLaw
import Derived.BigQuiet
import Derived.Deep.Cut
import Derived.Deep.CutRange
import Derived.Lib.AppendStr
import Derived.Test.YthmdmgnhfhpcaaaGreatDoorPkCardSvE0
import Derived.Test.YthmdmgnhfhpcaaaGreatDoorPkCardSvE1
set_option linter.unusedVariables false
set_option linter.unusedSimpArgs false
set_option maxRecDepth 20000
set_option maxHeartbeats 12800000
namespace Go.Proofs.YthmdmgnhfhpcaaaGreatDoor
open Go.RowKit
def sealK (kind:UInt8) (ns:List Int) (k:Nat):List UInt8:=splice ((List.replicate 512 0).set 4 kind) 5 (numsB (ns.take k))
theorem sealK_len (kind:UInt8) (ns:List Int) (k:Nat) (h:ns.length≤6):(sealK kind ns k).length=512:=by
 unfold sealK
 rw [length_splice _ _ _ (by rw [numsB_length,set4_length,List.length_take];omega),set4_length]
theorem sealK_succ (kind:UInt8) (ns:List Int) (k:Nat) (n:Int) (h:ns.length≤6) (hk:ns[k]? =some n):splice (sealK kind ns k) (5 + 8 * k) (be64 n)=sealK kind ns (k + 1):=by
 have hkl:=(List.getElem?_eq_some_iff.1 hk).1
 unfold sealK
 rw [numsB_take ns k n hk]
 have e:(numsB (ns.take k)).length=8 * k:=by rw [numsB_length,List.length_take];omega
 rw [← e]
 exact splice_next _ _ _ _ (by rw [e,be64_length,set4_length];omega)
theorem sealK_zero (kind:UInt8) (ns:List Int):sealK kind ns 0=(List.replicate 512 0).set 4 kind:=by
 unfold sealK
 rw [List.take_zero]
 exact splice_nil _ _
theorem sealK_all (kind:UInt8) (ns:List Int) (tail:List UInt8):splice (sealK kind ns ns.length) 32 tail=bodyB kind ns tail:=by
 unfold sealK bodyB
 rw [List.take_of_length_le (Nat.le_refl _)]
theorem bs_set (l:List UInt8) (k:Nat) (x:UInt8):(bs l).set k (.int .u8 (x.toNat:Int))=bs (l.set k x):=by simp [bs,List.map_set]
theorem sealed_any (kind:UInt8) (gh n:Nat) (ns:List Int) (vN:Value) (T:Option Addr) (ct:Nat) (tail:List UInt8) (w:World) (hn:ns.length=n) (h6:n≤6) (hv:PtrS gh n w vN)
    (hc:∀j x,ns[j]? =some x→w.cell? ⟨gh,j,none⟩=some (.int .u64 x)∧0≤x∧x < 18446744073709551616) (ht:Rd w T tail) (nt:Nat) (hnt:tail.length=nt) (htl:nt≤480) (hT:Tab w):
    Calls Tryz.prog 80 #[.int .u8 (kind.toNat:Int),vN, .slice T nt ct] w (FPost w (sealB kind ns tail)):=by
  obtain ⟨h,rfl,hp⟩:=hv
  have HP:=hide hp
  have HC:=hide hc
  have HT:=hide ht
  have HTab:=hide hT
  have HN:=hide hn
  have HNT:=hide hnt
  have hkb:=kind.toNat_lt
  have HM:=hide (make_512 w)
  have hmk:=HM.out
  obtain ⟨z0,HZ⟩:∃z0,Hid (bs (List.replicate 512 0)=z0):=⟨_,hide rfl⟩
  rw [HZ.out] at hmk
  obtain ⟨w1,hw1⟩:∃w1,w1=w.alloc (.cells z0.toArray 5):=⟨_,rfl⟩
  obtain ⟨g,hg⟩:∃g,g=w.heap.size:=⟨_,rfl⟩
  rw [← hw1,← hg] at hmk
  have HG:Hid (g=w.heap.size):=hide hg
  have HX1:Hid (Ext w w1):=hide (by rw [hw1];exact Ext.alloc _ _)
  have HR1:Hid (Rw w1 g 5 (bs (List.replicate 512 0))):=hide (by rw [hw1,hg,HZ.out];exact Rw.new _ _ _)
  have c4:=HR1.out.cell (i:=4) rfl
  have f4:=HR1.out.frozen 4
  have HR2:Hid (Rw (w1.setCell ⟨g,4,none⟩ (.int .u8 (kind.toNat:Int))) g 5 (bs (sealK kind ns 0))):=hide (by rw [sealK_zero,← bs_set];exact HR1.out.set 4 _)
  have HX2:Hid (Ext w (w1.setCell ⟨g,4,none⟩ (.int .u8 (kind.toNat:Int)))):=hide (Below.setCell (p:=⟨g,4,none⟩) HX1.out (by rw [HG.out];exact Nat.le_refl _) _)
  clear hw1 hg HM hp hc ht hT hn hnt HR1 HZ
  go_enter Tryz.func80,Tryz.ntmps80
  go_wp2
  clear hmk c4 f4
  go_loopw [8,17] (fun a i wr=>∃k:Nat,k≤n∧a= .int .i64 ((5 + 8 * k:Nat):Int)∧i= .int .i64 (k:Int)∧Hid (Rw wr g 5 (bs (sealK kind ns k)))∧Hid (Ext w wr)) (fun _ i _=>n - (intOf i).toNat)
  case atStart=>exact ⟨0,Nat.zero_le _,rfl,rfl,HR2,HX2⟩
  case round=>
    obtain ⟨k,hk,rfl,rfl,HW,HX⟩:=hrel
    clear HR2 HX2
    by_cases hlt:k < n
    · obtain ⟨x,hx⟩:∃x,ns[k]? =some x:=⟨_,List.getElem?_eq_getElem (by rw [HN.out];exact hlt)⟩
      obtain ⟨hc0,hx0,hx1⟩:=HC.out k x hx
      have cx:=HX.out.keeps.cell hc0
      have cp:=HX.out.keeps.cell (HP.out k hlt)
      unfold ptr at cp
      obtain ⟨q,HQ⟩:∃q,Hid (be64 x=q):=⟨_,hide rfl⟩
      have HQL:Hid (q.length=8):=hide (by rw [← HQ.out];rfl)
      have KU:=hide (fun W=>uint_any x W hx0 hx1)
      rw [HQ.out] at KU
      have HS:Hid (splice (sealK kind ns k) (5 + 8 * k) q=sealK kind ns (k + 1)):=hide (by rw [← HQ.out];exact sealK_succ kind ns k x (by rw [HN.out];exact h6) hx)
      obtain ⟨a,HA⟩:∃a,Hid (5 + 8 * k=a):=⟨_,hide rfl⟩
      rw [HA.out] at HS ⊢
      have HA5:Hid (a≤45):=hide (by have:=HA.out;omega)
      have HKL:Hid ((sealK kind ns k).length=512):=hide (sealK_len kind ns k (by rw [HN.out];exact h6))
      have ha1:(a:Int)≤512:=by have:=HA5.out;omega
      have ha2:a≤512:=by have:=HA5.out;omega
      have ha3:¬512=a:=by have:=HA5.out;omega
      have ha4:(0:Int)≤(a:Int):=by omega
      have hki:(k:Int) < (n:Int):=by omega
      have HXX:=hide hx
      clear hx hc0 hx0 hx1
      have hq8:(bs q).length=8:=by rw [bs_length,HQL.out]
      go_wp2
      go_region_law (first
        | (go_simp;go_at_call 112;(with_reducible refine (KU.out _).mono ?_);rintro e w2 ⟨v,rfl,hx2,A2,c2,rfl,hc2,hr2⟩;rw [HQL.out] at hc2 ⊢;have HR2:=hide hr2;have HX2:Hid (Ext w w2):=hide (HX.out.trans ((Ext.drew _).trans hx2));have HW2:Hid (Rw w2 g 5 (bs (sealK kind ns k))):=hide ((HW.out.ext (Ext.drew _)).ext hx2);clear hr2 hx2)
        | (refine step_copy_splice rfl (.tmp 24) (.tmp 28) 22 22 rfl 5 Tryz.underlying22 (by kernel_rfl) (some ⟨g,a,none⟩) A2 (512 - a) (512 - a) 8 c2 (by rfl) (by rfl) g a (bs (sealK kind ns k)) 5 HW2.out (bs q) (by rw [hq8];have:=HA5.out;exact (Nat.min_eq_left (by omega)).symm) (fun _=>⟨rfl,copy_src HR2.out (fun e=>by have:=HQL.out;rw [e] at this;cases this)⟩) (by rw [bs_length (sealK kind ns k),HKL.out,hq8];have:=HA5.out;omega) (bs_one q) w.heap.size w HX2.out (by rw [HG.out];exact Nat.le_refl _) ?_;intro w3 hg3 hb3;rw [hq8]))
      all_goals
        have HW3:Hid (Rw w3 g 5 (bs (sealK kind ns (k + 1)))):=hide (by
          have h:=hg3.out
          rw [splice_bs,HS.out] at h
          exact h)
        have HX3:=hide hb3
        have hwa:IntKind.i64.wrap ((a:Int) + 8)=((5 + 8 * (k + 1):Nat):Int):=by rw [IntKind.wrap_i64];have:=HA.out;omega
        clear hg3 hb3
        go_wp2
        refine ⟨⟨k + 1,by omega,by first | rfl | rw [hwa],by go_num,HW3,HX3⟩,by simp [intOf];omega⟩
    · obtain rfl:k=n:=by omega
      have hki:¬(k:Int) < (k:Int):=by omega
      have HKL:Hid ((sealK kind ns k).length=512):=hide (sealK_len kind ns k (by rw [HN.out];exact h6))
      have HBL:Hid ((bodyB kind ns tail).length=512):=hide (bodyB_length (by rw [HN.out];exact h6) (by rw [HNT.out];exact htl))
      have HBE:Hid (splice (sealK kind ns k) 32 tail=bodyB kind ns tail):=hide (by rw [← sealK_all,HN.out])
      obtain ⟨bd,HBD⟩:∃bd,Hid (bodyB kind ns tail=bd):=⟨_,hide rfl⟩
      have HSE:Hid (sealB kind ns tail=splice bd 0 (be4 (crc (bd.drop 4)))):=hide (by rw [← HBD.out];rfl)
      rw [HSE.out]
      rw [HBD.out] at HBL HBE
      obtain ⟨s4,HS4⟩:∃s4,Hid (be4 (crc (bd.drop 4))=s4):=⟨_,hide rfl⟩
      have HS4L:Hid (s4.length=4):=hide (by rw [← HS4.out];rfl)
      have KS:=hide (fun (W:World) (hr:Rd W (some ⟨g,0,none⟩) bd) (ht:Tab W)=>sumOf_any (some ⟨g,0,none⟩) 512 bd W hr HBL.out (Nat.le_refl _) ht)
      rw [HS4.out] at KS ⊢
      obtain ⟨sl,HSL⟩:∃sl,Hid (sealK kind ns k=sl):=⟨_,hide rfl⟩
      rw [HSL.out] at HW HBE HKL
      go_wp2_with (first
        | ((with_reducible show wpList _ _ _ (⟨some 35,_,_,_,_,_⟩::_) _ _);refine wpList_copy_splice rfl (.tmp 33) (.tmp 34) 22 22 rfl 5 Tryz.underlying22 (by kernel_rfl) (some ⟨g,32,none⟩) T 480 480 nt ct (by rfl) (by rfl) g 32 (bs sl) 5 HW.out (bs tail) (by rw [bs_length,HNT.out];exact (Nat.min_eq_left htl).symm) (fun hpos=>⟨rfl,copy_src (HT.out.ext HX.out) (fun e=>by rw [e] at hpos;exact absurd hpos (by decide))⟩) (by rw [bs_length sl,HKL.out,bs_length,HNT.out];omega) (bs_one tail) w.heap.size w HX.out (by rw [HG.out];exact Nat.le_refl _) ?_;intro w3 hg3 hb3;
           have HW3:Hid (Rw w3 g 5 (bs bd)):=hide (by have h:=hg3.out;rw [splice_bs,HBE.out] at h;exact h);
           have HX3:Hid (Ext w w3):=hide hb3;have ET3:Hid (Tab w3):=hide (HTab.out.ext HX3.out);have ER3:Hid (Rd w3 (some ⟨g,0,none⟩) bd):=hide (Rd.of_rw HW3.out);clear hg3 hb3)
        | (go_at_call 113;(with_reducible refine (KS.out w3 ER3.out ET3.out).mono ?_);rintro e w4 ⟨v,rfl,hx4,A4,c4,rfl,hc4,hr4⟩;rw [HS4L.out] at hc4 ⊢;have HX4:Hid (Ext w w4):=hide (HX3.out.trans hx4);have HR4:=hide hr4;have HW4:=hide (HW3.out.ext hx4);clear hx4 hr4)
        | ((with_reducible show wpList _ _ _ (⟨some 39,_,_,_,_,_⟩::_) _ _);refine wpList_copy_splice rfl (.tmp 36) (.tmp 38) 22 22 rfl 5 Tryz.underlying22 (by kernel_rfl) (some ⟨g,0,none⟩) A4 512 512 4 c4 (by rfl) (by rfl) g 0 (bs bd) 5 HW4.out (bs s4) (by rw [bs_length,HS4L.out];rfl) (fun _=>⟨rfl,copy_src HR4.out (fun e=>by have:=HS4L.out;rw [e] at this;cases this)⟩) (by rw [bs_length bd,HBL.out,bs_length,HS4L.out];omega) (bs_one s4) w.heap.size w HX4.out (by rw [HG.out];exact Nat.le_refl _) ?_;intro w5 hg5 hb5;
           have HW5:Hid (Rw w5 g 5 (bs (splice bd 0 s4))):=hide (by have h:=hg5.out;rw [splice_bs] at h;exact h);
           have HX5:Hid (Ext w w5):=hide hb5;clear hg5 hb5))
      go_ret
      refine ⟨g,rfl, ?_,by rw [HG.out];exact Nat.le_refl _,HX5.out⟩
      first | exact HW5.out | (rw [HSE.out,HS4.out];exact HW5.out)
structure Hd where
 ep:Nat
 old:Nat
 st:Nat
 fi:Nat
 ck:Nat
 cn:Nat
def Hd.ns (h:Hd):List Int:= [(h.ep:Int),(h.old:Int),(h.st:Int),(h.fi:Int),(h.ck:Int),(h.cn:Int)]
structure Hd.Ok (h:Hd):Prop where
 ep:h.ep < 18446744073709551616
 old:h.old < 18446744073709551616
 st:h.st < 18446744073709551616
 fi:h.fi < 18446744073709551616
 ck:h.ck < 18446744073709551616
 cn:h.cn < 18446744073709551616
def Hd.cs (h:Hd):List Value:= [.int .u64 (h.ep:Int), .int .u64 (h.old:Int), .int .u64 (h.st:Int), .int .u64 (h.fi:Int), .int .u64 (h.ck:Int), .int .u64 (h.cn:Int)]
theorem Hd.range {h:Hd} (ok:h.Ok):∀(j:Nat) (x:Int),h.ns[j]? =some x→h.cs[j]? =some (Value.int .u64 x)∧0≤x∧x < 18446744073709551616:=by
 intro j x hj
 obtain ⟨h1,h2,h3,h4,h5,h6⟩:=ok
 rcases j with _ | _ | _ | _ | _ | _ | j
 all_goals first
  | (simp only [Hd.ns,List.getElem?_cons_succ,List.getElem?_cons_zero,Option.some.injEq] at hj;subst hj;exact ⟨rfl,by omega,by omega⟩)
  | (simp [Hd.ns] at hj)
section
variable {B g gd gn c:Nat} {w w1:World} {A:Option Addr} {D D':Dk} {r:Value} {e:Ending} {w':World}
theorem DPost.pre (hx:Ext w w1) (h:DPost B g gd gn w1 A r D' e w'):DPost B g gd gn w A r D' e w':=by
 obtain ⟨A',c',he,hd,hf,hn⟩:=h
 exact ⟨A',c',he,hd,(Dfr.ext hx).trans hf (Newer.refl _ _),(Newer.refl w A).trans hn hx.size⟩
theorem DPost.same (h:DiskAt B w g gd gn A c D) (hx:Ext w w') (he:e= .returned r):DPost B g gd gn w A r D e w':=
 ⟨A,c,he,h.ext hx,Dfr.ext hx,Newer.refl _ _⟩
theorem writeHead_any (h:DiskAt B w g gd gn A c D) (b:Bd D) (hB:B≤w.heap.size) (i:Int) (H:Hd) (ok:H.Ok) (hT:Tab w):
  Calls Tryz.prog 50 #[.pointer (some ⟨g,0,none⟩), .int .i64 i, .agg H.cs.toArray] w (DPost B g gd gn w A (.int .i64 (wE D i (sealB 1 H.ns []))) (wD D i (sealB 1 H.ns []))):=by
 have HD:=hide h
 have HBD:=hide b
 have HT:=hide hT
 have HB:=hide hB
 obtain ⟨q,HQ⟩:∃q,Hid (sealB 1 H.ns []=q):=⟨_,hide rfl⟩
 have HQL:Hid (q.length=512):=hide (by rw [← HQ.out];exact sealB_length (by simp [Hd.ns]) (by simp))
 rw [HQ.out]
 obtain ⟨wa,HWA⟩:∃wa,Hid (w.alloc (.cells H.cs.toArray 79)=wa):=⟨_,hide rfl⟩
 have HXA:Hid (Ext w wa):=hide (by rw [← HWA.out];exact Ext.alloc _ _)
 have HRA:Hid (Rw wa w.heap.size 79 H.cs):=hide (by rw [← HWA.out];exact Rw.new _ _ _)
 have KN:=hide (numbersH_any w.heap.size wa)
 have KS:Hid (∀(W:World) (v:Value),Ext wa W→PtrS w.heap.size 6 W v→Calls Tryz.prog 80 #[.int .u8 1,v, .slice none 0 0] W (FPost W q)):=hide (fun (W:World) (v:Value) (hW:Ext wa W) (hv:PtrS w.heap.size 6 W v)=>by
  have h:=sealed_any 1 w.heap.size 6 H.ns v none 0 [] W rfl (Nat.le_refl _) hv (fun j x hj=>by
   obtain ⟨h1,h2,h3⟩:=Hd.range ok j x hj
   exact ⟨(HRA.out.ext hW).cell h1,h2,h3⟩) (Rd.nil _ _) 0 rfl (by decide) (HT.out.ext (HXA.out.trans hW))
  rw [HQ.out] at h
  exact h)
 clear h b hT hB
 go_enter Tryz.func50,Tryz.ntmps50
 go_wp2_with (first
  | ((with_reducible show wpList _ _ _ (⟨some 5, .box _ _,_,_,_,_⟩::_) _ _);refine wpList_gives (gives_box rfl H.cs.toArray rfl ⟨rfl,rfl⟩) rfl ?_;rw [HWA.out])
  | (go_at_call 81;(with_reducible refine KN.out.mono ?_);rintro e w2 ⟨v,rfl,hx2,hp2⟩;have HX2:=hide hx2;have HP2:=hide hp2;clear hx2 hp2)
  | (go_at_call 80;(with_reducible refine (KS.out w2 v HX2.out HP2.out).mono ?_);rintro e w3 ⟨h3,rfl,hr3,-,hx3⟩;have HX3:Hid (Ext w w3):=hide ((HXA.out.trans HX2.out).trans hx3);have HR3:=hide (Rd.of_rw hr3);clear hx3 hr3)
  | (go_at_call 46;(with_reducible refine (write_uni (HD.out.ext HX3.out) HBD.out (Nat.le_trans HB.out HX3.out.size) i q 512 HQL.out (by decide) HR3.out).mono ?_);rintro e w4 hp4;obtain ⟨A4,c4,rfl,hd4,hf4,hn4⟩:=DPost.pre HX3.out hp4;have HD4:=hide hd4;have HF4:=hide hf4;have HN4:=hide hn4;clear hp4 hd4 hf4 hn4))
 go_ret
 exact ⟨A4,c4,rfl,HD4.out,HF4.out,HN4.out⟩
def ptNs (num ep sz:Nat):List Int:= [(num:Int),(ep:Int),(sz:Int)]
theorem writePart_any (h:DiskAt B w g gd gn A c D) (b:Bd D) (hB:B≤w.heap.size) (i:Int) (num ep nt:Nat) (sz:Int) (h1:num < 18446744073709551616) (h2:ep < 18446744073709551616) (T:Option Addr) (ct:Nat) (tail:List UInt8) (hr:Rd w T tail) (hn:tail.length=nt) (hl:nt≤480) (hT:Tab w):
  Calls Tryz.prog 118 #[.pointer (some ⟨g,0,none⟩), .int .i64 i, .agg #[.int .u64 (num:Int), .int .u64 (ep:Int), .int .u64 sz, .slice T nt ct]] w (DPost B g gd gn w A (.int .i64 (wE D i (sealB 2 (ptNs num ep nt) tail))) (wD D i (sealB 2 (ptNs num ep nt) tail))):=by
 have HD:=hide h
 have HBD:=hide b
 have HT:=hide hT
 have HB:=hide hB
 have HR:=hide hr
 have HN:=hide hn
 obtain ⟨q,HQ⟩:∃q,Hid (sealB 2 (ptNs num ep nt) tail=q):=⟨_,hide rfl⟩
 have HQL:Hid (q.length=512):=hide (by rw [← HQ.out];exact sealB_length (by simp [ptNs]) (by omega))
 rw [HQ.out]
 obtain ⟨wa,HWA⟩:∃wa,Hid (w.alloc (.cells [Value.int .u64 (num:Int), .int .u64 (ep:Int), .int .u64 sz, .slice T nt ct].toArray 123)=wa):=⟨_,hide rfl⟩
 obtain ⟨p,hp⟩:∃p,w.heap.size=p:=⟨_,rfl⟩
 have HXA:Hid (Ext w wa):=hide (by rw [← HWA.out];exact Ext.alloc _ _)
 have HRA:Hid (Rw wa p 123 [.int .u64 (num:Int), .int .u64 (ep:Int), .int .u64 sz, .slice T nt ct]):=hide (by rw [← HWA.out,← hp];exact Rw.new _ _ _)
 have a3:=HRA.out.cell (i:=3) rfl
 have a2:=HRA.out.cell (i:=2) rfl
 have f2:=HRA.out.frozen 2
 obtain ⟨wb,HWB⟩:∃wb,Hid (wa.setCell ⟨p,2,none⟩ (.int .u64 (nt:Int))=wb):=⟨_,hide rfl⟩
 have HRB:Hid (Rw wb p 123 [.int .u64 (num:Int), .int .u64 (ep:Int), .int .u64 (nt:Int), .slice T nt ct]):=hide (by rw [← HWB.out];exact HRA.out.set 2 _)
 have HXB:Hid (Ext w wb):=hide (by rw [← HWB.out];exact Below.setCell (p:=⟨p,2,none⟩) HXA.out (by rw [hp];exact Nat.le_refl _) _)
 have KN:=hide (fun W=>numbersP_any p W)
 have KS:Hid (∀(W:World) (v:Value),Ext wb W→PtrS p 3 W v→Calls Tryz.prog 80 #[.int .u8 2,v, .slice T nt ct] W (FPost W q)):=hide (fun (W:World) (v:Value) (hW:Ext wb W) (hv:PtrS p 3 W v)=>by
  have h:=sealed_any 2 p 3 (ptNs num ep nt) v T ct tail W rfl (by decide) hv (fun j x hj=>by
   have hh:∃u:Value, [Value.int .u64 (num:Int), .int .u64 (ep:Int), .int .u64 (nt:Int), .slice T nt ct][j]? =some u∧u=Value.int .u64 x∧0≤x∧x < 18446744073709551616:=by
    rcases j with _ | _ | _ | j
    all_goals first
     | (simp only [ptNs,List.getElem?_cons_succ,List.getElem?_cons_zero,Option.some.injEq] at hj;subst hj;exact ⟨_,rfl,rfl,by omega,by omega⟩)
     | (simp [ptNs] at hj)
   obtain ⟨u,h1,rfl,h2,h3⟩:=hh
   exact ⟨(HRB.out.ext hW).cell h1,h2,h3⟩) (HR.out.ext (HXB.out.trans hW)) nt HN.out hl (HT.out.ext (HXB.out.trans hW))
  rw [HQ.out] at h
  exact h)
 have hnt:(nt:Int)≤480:=by omega
 have hnw:IntKind.u64.wrap (nt:Int)=(nt:Int):=by rw [IntKind.wrap_u64];omega
 clear h b hT hB hr hn hl
 go_enter Tryz.func118,Tryz.ntmps118
 go_upto_region 2 with (first
  | ((with_reducible show wpList _ _ _ (⟨some 5, .box _ _,_,_,_,_⟩::_) _ _);refine wpList_gives (gives_box rfl #[.int .u64 (num:Int), .int .u64 (ep:Int), .int .u64 sz, .slice T nt ct] rfl ⟨rfl,rfl⟩) rfl ?_;rw [HWA.out,hp]))
 rw [HWB.out]
 have HPW:Hid (w.heap.size=p):=hide hp
 clear a2 a3 f2 hnw hp
 have b3:=HRB.out.cell (i:=3) rfl
 go_region_law (first
  | (go_simp;go_at_call 111;(with_reducible refine (KN.out _).mono ?_);rintro e w2 ⟨v,rfl,hx2,hp2⟩;have HX2:Hid (Ext wb w2):=hide ((Ext.drew _).trans hx2);have HP2:=hide hp2;have c3:=(HRB.out.ext HX2.out).cell (i:=3) rfl;clear hx2 hp2)
  | (go_simp;go_at_call 80;(with_reducible refine (KS.out w2 v HX2.out HP2.out).mono ?_);rintro e w3 ⟨h3,rfl,hr3,-,hx3⟩;have HX3:Hid (Ext w w3):=hide ((HXB.out.trans HX2.out).trans hx3);have HR3:=hide (Rd.of_rw hr3);clear hx3 hr3)
  | (go_simp;go_at_call 46;(with_reducible refine (write_uni (HD.out.ext HX3.out) HBD.out (Nat.le_trans HB.out HX3.out.size) i q 512 HQL.out (by decide) HR3.out).mono ?_);rintro e w4 hp4;obtain ⟨A4,c4,rfl,hd4,hf4,hn4⟩:=DPost.pre HX3.out hp4;have HD4:=hide hd4;have HF4:=hide hf4;have HN4:=hide hn4;clear hp4 hd4 hf4 hn4))
 all_goals
  go_wp2
  go_ret
  exact ⟨A4,c4,rfl,HD4.out,HF4.out,HN4.out⟩
end
def Alt (B hb:Nat) (w w':World):Prop:=Below B w w'∧w.heap.size≤w'.heap.size∧∀j,j≠hb→j < w.heap.size→w'.heap[j]? =w.heap[j]?
theorem Alt.trans {B hb:Nat} {a b c:World} (h:Alt B hb a b) (k:Alt B hb b c):Alt B hb a c:=⟨h.1.trans k.1,Nat.le_trans h.2.1 k.2.1,fun j hj hl=>by rw [k.2.2 j hj (Nat.lt_of_lt_of_le hl h.2.1),h.2.2 j hj hl]⟩
theorem Alt.of_ext {B hb:Nat} {w w':World} (h:Ext w w') (hB:B≤w.heap.size):Alt B hb w w':=⟨Below.mono h hB,h.size,fun j _ hl=>Below.block h j hl⟩
theorem Alt.cell {B hb:Nat} {w w':World} (h:Alt B hb w w') {p:Addr} {v:Value} (hp:p.block≠hb) (hc:w.cell? p=some v):w'.cell? p=some v:=by
 have hlt:p.block < w.heap.size:=by
  rcases Nat.lt_or_ge p.block w.heap.size with h1 | h1
  ·exact h1
  ·unfold World.cell? at hc;rw [Array.getElem?_eq_none h1] at hc;cases hc
 unfold World.cell? at hc ⊢
 rw [h.2.2 p.block hp hlt]
 exact hc
theorem str_any {w:World} {A:Option Addr} {l:List UInt8} (h:Rd w A l) (n c:Nat) (hn:l.length=n):(convert 22 9 (.slice A n c)).run Tryz.prog w= .ok (.string ⟨l.toArray⟩) w:=by
 subst hn
 exact h.str (P:=Tryz.prog) 22 9 5 c Tryz.underlying22 Tryz.underlying5 Tryz.underlying9
theorem equal_any (A B:Option Addr) (l m:List UInt8) (n p c d:Nat) (w:World) (hA:Rd w A l) (hB:Rd w B m) (hn:l.length=n) (hp:m.length=p):
  Calls Tryz.prog 114 #[.slice A n c, .slice B p d] w (fun e w' =>e= .returned (.bool (l==m))∧w' =w):=by
 have cv1:=str_any hA n c hn
 have cv2:=str_any hB p d hp
 cases hb:(l==m) with
 | true=>
  go_enter Tryz.func114,Tryz.ntmps114
  go_wp2
  go_ret
  exact ⟨rfl,rfl⟩
 | false=>
  go_enter Tryz.func114,Tryz.ntmps114
  go_wp2
  go_ret
  exact ⟨rfl,rfl⟩
def numsV (b:List UInt8) (n:Nat):List Value:=(List.range n).map fun k=> .int .u64 (numAt b k)
theorem numsV_length (b:List UInt8) (n:Nat):(numsV b n).length=n:=by simp [numsV]
def rowK (b:List UInt8) (vs:List Value) (k:Nat):List Value:=numsV b k ++ vs.drop k
theorem rowK_zero (b:List UInt8) (vs:List Value):rowK b vs 0=vs:=by simp [rowK,numsV]
theorem rowK_get (b:List UInt8) (vs:List Value) (k:Nat):(rowK b vs k)[k]? =vs[k]? :=by
 unfold rowK
 rw [List.getElem?_append_right (by rw [numsV_length];omega),numsV_length,Nat.sub_self,List.getElem?_drop]
 rfl
theorem rowK_succ (b:List UInt8) (vs:List Value) (k:Nat) (hk:k < vs.length):(rowK b vs k).set k (.int .u64 (numAt b k))=rowK b vs (k + 1):=by
 unfold rowK
 rw [List.set_append_right _ _ (by rw [numsV_length];omega),numsV_length,Nat.sub_self,List.drop_eq_getElem_cons hk,List.set_cons_zero]
 unfold numsV
 rw [List.range_succ,List.map_append,List.append_assoc]
 rfl
theorem rdNum_at (b:List UInt8) (k:Nat) (hb:b.length=512) (hk:k < 6):rdNum b ((5 + 8 * k:Nat):Int)=(numAt b k,((5 + 8 * (k + 1):Nat):Int),0):=by
 unfold rdNum numAt
 rw [if_neg (by omega),if_neg (by omega),Int.toNat_natCast]
 congr 2
def UPostL (gh:Nat) (t:TypeId) (vs:List Value) (n kind:Nat) (b:List UInt8) (w:World) (e:Ending) (w':World):Prop:=
 e= .returned (.int .i64 (unsE kind b))∧Rw w' gh t (if unsE kind b=0 then rowK b vs n else vs)∧Alt gh gh w w'
theorem Alt.of_ext0 {gh:Nat} {w w':World} {t:TypeId} {vs:List Value} (hr:Rw w gh t vs) (h:Ext w w'):Alt gh gh w w':=Alt.of_ext h (Nat.le_of_lt hr.lt)
theorem Alt.set {gh i:Nat} {w:World} {v:Value}:Alt gh gh w (w.setCell ⟨gh,i,none⟩ v):=
 ⟨Below.setCell (p:=⟨gh,i,none⟩) (Below.refl _ _) (Nat.le_refl _) _,by simp,fun j hj _=>Below.heap_setCell w ⟨gh,i,none⟩ v j hj⟩
theorem unseal_any (Ab:Option Addr) (c:Nat) (b:List UInt8) (hb:b.length=512) (hc:512≤c) (kind gh n:Nat) (hkd:kind < 256) (t:TypeId) (vs:List Value) (vN:Value) (w:World) (hr:Rd w Ab b) (hg:Rw w gh t vs) (hv:PtrS gh n w vN) (hn:n≤6) (hvs:∀k,k < n→∃z,vs[k]? =some (.int .u64 z))
  (hne:∀a,Ab=some a→a.block≠gh) (hne2:∀a l c,vN= .slice (some a) l c→a.block≠gh) (hT:Tab w):
  Calls Tryz.prog 83 #[.slice Ab 512 c, .int .u8 (kind:Int),vN] w (UPostL gh t vs n kind b w):=by
 obtain ⟨h,rfl,hp⟩:=hv
 obtain ⟨bb,off,x4,rfl,hx4,hc4⟩:=hr.at (k:=4) (by omega)
 have hhg:h≠gh:=hne2 _ _ _ rfl
 have hbg:bb≠gh:=hne _ rfl
 have HP:=hide hp
 have HR:=hide hr
 have HG:=hide hg
 have HV:=hide hvs
 have HBL:=hide hb
 have HTK:Hid (Rd w (some ⟨bb,off,none⟩) (b.take 4)):=hide (hr.take 4)
 have HTL:Hid ((b.take 4).length=4):=hide (by rw [List.length_take];omega)
 obtain ⟨s4,HS4⟩:∃s4,Hid (be4 (crc (b.drop 4))=s4):=⟨_,hide rfl⟩
 have HS4L:Hid (s4.length=4):=hide (by rw [← HS4.out];rfl)
 have KS:=hide (fun (W:World) (hW:Ext w W)=>sumOf_any (some ⟨bb,off,none⟩) c b W (hr.ext hW) hb hc (hT.ext hW))
 rw [HS4.out] at KS
 obtain ⟨y4,HY4⟩:∃y4,Hid (b.take 4=y4):=⟨_,hide rfl⟩
 rw [HY4.out] at HTK HTL
 obtain ⟨q,HQ⟩:∃q,Hid ((y4==s4)=q):=⟨_,hide rfl⟩
 have HE:Hid (unsE kind b=if q=true then (if (x4.toNat=kind) then 0 else 3) else 15):=hide (by
  unfold unsE
  rw [HS4.out,HY4.out,← HQ.out]
  by_cases hq:y4=s4
  ·have e:(y4==s4)=true:=by rw [hq];exact beq_self_eq_true _
   have e2:b.getD 4 0=x4:=by rw [List.getD_eq_getElem?_getD,hx4];rfl
   rw [if_pos hq,e,if_pos rfl,e2]
  ·have e:(y4==s4)=false:=beq_eq_false_iff_ne.2 hq
   rw [if_neg hq,e]
   rfl)
 have hcc:¬c=4:=by omega
 have hc4':4≤c:=by omega
 have hci:(4:Int)≤(c:Int):=by omega
 have HC4:=hide hc4
 have HX4:=hide hx4
 clear hp hr hg hvs hb hT hne hne2 hc4 hx4
 go_enter Tryz.func83,Tryz.ntmps83
 go_upto_region 1 with fail
 go_region_law (first
  | (go_simp;go_at_call 113;(with_reducible refine (KS.out _ (Ext.drew _)).mono ?_);rintro e w2 ⟨v,rfl,hx2,A2,c2,rfl,hc2,hr2⟩;rw [HS4L.out] at hc2 ⊢;have HX2:Hid (Ext w w2):=hide ((Ext.drew _).trans hx2);have KE:=equal_any (some ⟨bb,off,none⟩) A2 y4 s4 4 4 c c2 w2 (HTK.out.ext HX2.out) hr2 HTL.out HS4L.out;rw [HQ.out] at KE;have HKE:=hide KE;clear hx2 hr2 KE)
  | (go_simp;go_at_call 114;(with_reducible refine HKE.out.mono ?_);rintro e w3 ⟨rfl,rfl⟩))
 all_goals
  have HG2:=hide (HG.out.ext HX2.out)
  have HA2:Hid (Alt gh gh w w3):=hide (Alt.of_ext0 HG.out HX2.out)
  have hc4:=HA2.out.cell (p:=⟨bb,off + 4,none⟩) hbg HC4.out
  cases q with
  | false=>
   have HE0:Hid (unsE kind b=15):=hide HE.out
   go_wp2
   go_ret
   refine ⟨by rw [HE0.out];rfl, ?_,HA2.out⟩
   rw [HE0.out,if_neg (by decide)]
   exact HG2.out
  | true=>
   by_cases hk:x4.toNat=kind
   ·have HE0:Hid (unsE kind b=0):=hide (by rw [HE.out,if_pos rfl,if_pos hk])
    have hkk:((x4.toNat:Int) !=(kind:Int))=false:=by rw [hk];simp
    have HR3:Hid (Rd w3 (some ⟨bb,off,none⟩) b):=hide (HR.out.ext HX2.out)
    have HG0:Hid (Rw w3 gh t (rowK b vs 0)):=hide (by rw [rowK_zero];exact HG2.out)
    clear hk HKE
    go_upto_region 7 with fail
    clear hc4 hkk
    go_loopw [7,25] (fun a i wr=>∃k:Nat,k≤n∧a= .int .i64 ((5 + 8 * k:Nat):Int)∧i= .int .i64 (k:Int)∧Hid (Rw wr gh t (rowK b vs k))∧Hid (Alt gh gh w wr)) (fun _ i _=>n - (intOf i).toNat)
    case atStart=>exact ⟨0,Nat.zero_le _,rfl,rfl,HG0,HA2⟩
    case round=>
     obtain ⟨k,hk,rfl,rfl,HW,HA⟩:=hrel
     by_cases hlt:k < n
     ·obtain ⟨z,hz⟩:=HV.out k hlt
      have hkv:=(List.getElem?_eq_some_iff.1 hz).1
      have cp:=HA.out.cell (p:=⟨h,k,none⟩) hhg (HP.out k hlt)
      unfold ptr at cp
      have cz:=HW.out.cell (by rw [rowK_get];exact hz)
      have fz:=HW.out.frozen k
      have hrd:Rd wr (some ⟨bb,off,none⟩) b:=by
       intro hn0
       obtain ⟨b1,o1,he,hcell⟩:=HR.out hn0
       injection he with he
       injection he with he1 he2
       refine ⟨b1,o1,by rw [← he1,← he2],fun j u hu=> ?_⟩
       exact HA.out.cell (p:=⟨b1,o1 + j,none⟩) (by show b1≠gh;rw [← he1];exact hbg) (hcell j u hu)
      have KR:=readUint_any (some ⟨bb,off,none⟩) c b ((5 + 8 * k:Nat):Int) wr hrd (by rw [HBL.out];decide) (by omega)
      rw [rdNum_at b k HBL.out (by omega),HBL.out] at KR
      have HKR:=hide KR
      obtain ⟨x,HX⟩:∃x,Hid (numAt b k=x):=⟨_,hide rfl⟩
      have HS:Hid ((rowK b vs k).set k (.int .u64 x)=rowK b vs (k + 1)):=hide (by rw [← HX.out];exact rowK_succ b vs k hkv)
      rw [HX.out] at HKR
      obtain ⟨a,HAA⟩:∃a,Hid (5 + 8 * k=a):=⟨_,hide rfl⟩
      rw [HAA.out] at HKR ⊢
      have hki:(k:Int) < (n:Int):=by omega
      clear KR hrd hz
      go_wp2_with (go_at_call 115;(with_reducible refine HKR.out.mono ?_);rintro e w5 ⟨rfl,rfl⟩)
      refine ⟨⟨k + 1,by omega,rfl,by go_num,hide ?_,hide ?_⟩,by simp [intOf];omega⟩
      ·rw [← HS.out];exact HW.out.set k _
      ·exact HA.out.trans Alt.set
     ·obtain rfl:k=n:=by omega
      have hki:¬(k:Int) < (k:Int):=by omega
      go_wp2
      go_ret
      refine ⟨by rw [HE0.out];rfl, ?_,HA.out⟩
      rw [HE0.out,if_pos rfl]
      exact HW.out
   ·have HE0:Hid (unsE kind b=3):=hide (by rw [HE.out,if_pos rfl,if_neg hk])
    have hkk:((x4.toNat:Int) !=(kind:Int))=true:=by simp;omega
    clear hk
    go_wp2
    go_ret
    refine ⟨by rw [HE0.out];rfl, ?_,HA2.out⟩
    rw [HE0.out,if_neg (by decide)]
    exact HG2.out
def rhE (D:Dk) (i:Int):Int:=if gE D i≠0 then gE D i else unsE 1 (gB D i)
def hdOf (b:List UInt8):Hd:=⟨(numAt b 0).toNat,(numAt b 1).toNat,(numAt b 2).toNat,(numAt b 3).toNat,(numAt b 4).toNat,(numAt b 5).toNat⟩
def hd0:Hd:=⟨0,0,0,0,0,0⟩
def rhH (D:Dk) (i:Int):Hd:=if rhE D i=0 then hdOf (gB D i) else hd0
theorem hdOf_ok (b:List UInt8):(hdOf b).Ok:=by
 have h:∀k,(numAt b k).toNat < 18446744073709551616:=fun k=>by have:=numAt_range b k;omega
 exact ⟨h 0,h 1,h 2,h 3,h 4,h 5⟩
theorem hdOf_cs (b:List UInt8):(hdOf b).cs=rowK b hd0.cs 6:=by
 have h:∀k,((numAt b k).toNat:Int)=numAt b k:=fun k=>by have:=numAt_range b k;omega
 unfold Hd.cs hdOf
 rw [h,h,h,h,h,h]
 rfl
theorem gB_len {D:Dk} (b:Bd D) (i:Int) (h:gE D i=0):(gB D i).length=512:=by
 unfold gE at h
 unfold gB
 split at h
 ·cases h
 ·split at h
  ·cases h
  ·rename_i h1 h2
   rw [if_neg h1,if_neg h2]
   exact at_len b _ (by omega)
theorem ptrs_ne {gh n:Nat} {w:World} {v:Value} {t:TypeId} {vs:List Value} (hv:PtrS gh n w v) (hn:0 < n) (hr:Rw w gh t vs) (h0:∃k z,vs[0]? =some (.int k z)):∀a l c,v= .slice (some a) l c→a.block≠gh:=by
 obtain ⟨h,rfl,hp⟩:=hv
 obtain ⟨k,z,h0⟩:=h0
 intro a l c he hb
 injection he with he
 injection he with he
 subst he
 simp only at hb
 subst hb
 have h1:=hp 0 hn
 rw [hr.cell h0] at h1
 cases h1
theorem Rw.alt {gh B g:Nat} {w w':World} {t:TypeId} {vs:List Value} (hr:Rw w g t vs) (h:Alt B gh w w') (hg:g≠gh):Rw w' g t vs:=(h.2.2 g hg hr.lt).trans hr
theorem Ext.alt {gh:Nat} {w0 w w':World} (hx:Ext w0 w) (h:Alt gh gh w w') (hg:w0.heap.size≤gh):Ext w0 w':=Below.trans hx (Below.mono h.1 hg)
theorem rd_lt {w:World} {A:Option Addr} {l:List UInt8} (h:Rd w A l) (hl:0 < l.length):∀a,A=some a→a.block < w.heap.size:=by
 obtain ⟨b,off,u,rfl,-,hc⟩:=h.at (k:=0) hl
 intro a ha
 injection ha with ha
 subst ha
 exact World.block_lt_of_cell? w _ hc
theorem sizeHd:(Tryz.prog.info? 79).map (·.size)=some 6:=by kernel_rfl
section
variable {B g gd gn c:Nat} {w w1:World} {A:Option Addr} {D D':Dk} {r:Value} {e:Ending} {w':World}
theorem readHead_any (h:DiskAt B w g gd gn A c D) (b:Bd D) (i:Int) (hT:Tab w):
  Calls Tryz.prog 51 #[.pointer (some ⟨g,0,none⟩), .int .i64 i] w (fun e w' =>e= .returned (.tuple #[.agg (rhH D i).cs.toArray, .int .i64 (rhE D i)])∧Ext w w'):=by
 have HD:=hide h
 have HB:=hide b
 have HT:=hide hT
 have KR:=hide (fun (W:World) (hW:Ext w W)=>read_uni (HD.out.ext hW) HB.out i)
 clear h b hT
 obtain ⟨r0,hr0⟩:∃r0,w.heap.size=r0:=⟨_,rfl⟩
 obtain ⟨wa,HWA⟩:∃wa,Hid (w.alloc (.cells #[.int .u64 0, .int .u64 0, .int .u64 0, .int .u64 0, .int .u64 0, .int .u64 0] 79)=wa):=⟨_,hide rfl⟩
 have HXA:Hid (Ext w wa):=hide (by rw [← HWA.out];exact Ext.alloc _ _)
 have HRA:Hid (Rw wa r0 79 [.int .u64 0, .int .u64 0, .int .u64 0, .int .u64 0, .int .u64 0, .int .u64 0]):=hide (by rw [← HWA.out,← hr0];exact Rw.new w 79 [.int .u64 0, .int .u64 0, .int .u64 0, .int .u64 0, .int .u64 0, .int .u64 0])
 go_enter Tryz.func51,Tryz.ntmps51
 go_upto_region 2 with (first
  | (go_at_call 82;rw [HWA.out];(with_reducible refine (KR.out wa HXA.out).mono ?_);rintro e w2 ⟨v,rfl,hv2,hx2⟩;have HX2:Hid (Ext wa w2):=hide hx2;have HV2:=hide hv2;clear hx2 hv2))
 have HR2:Hid (Rw w2 r0 79 [.int .u64 0, .int .u64 0, .int .u64 0, .int .u64 0, .int .u64 0, .int .u64 0]):=hide (HRA.out.ext HX2.out)
 have HR0:Hid (w.heap.size≤r0):=hide (Nat.le_of_eq hr0)
 clear hr0
 obtain ⟨e0,HE0⟩:∃e0,Hid (gE D i=e0):=⟨_,hide rfl⟩
 rw [HE0.out]
 by_cases he:e0=0
 ·subst he
  have HBL:Hid ((gB D i).length=512):=hide (gB_len HB.out i HE0.out)
  have HRE:Hid (rhE D i=unsE 1 (gB D i)):=hide (by unfold rhE;rw [HE0.out,if_neg (by decide)])
  obtain ⟨b,HBB⟩:∃b,Hid (gB D i=b):=⟨_,hide rfl⟩
  obtain ⟨Ab,cb,rfl,hcb,hrb⟩:=HV2.out
  rw [HBB.out] at HBL HRE hrb hcb
  have HCB:Hid (512≤cb):=hide (by rw [← HBL.out];exact hcb)
  have HRB:=hide hrb
  have HNB:Hid (∀a,Ab=some a→a.block < w2.heap.size):=hide (rd_lt hrb (by rw [HBL.out];decide))
  rw [HBB.out,HBL.out]
  clear hcb hrb HV2
  obtain ⟨gh,hgh⟩:∃gh,w2.heap.size=gh:=⟨_,rfl⟩
  obtain ⟨wb,HWB⟩:∃wb,Hid (w2.alloc (.cells #[.int .u64 0, .int .u64 0, .int .u64 0, .int .u64 0, .int .u64 0, .int .u64 0] 79)=wb):=⟨_,hide rfl⟩
  have HXB:Hid (Ext w2 wb):=hide (by rw [← HWB.out];exact Ext.alloc _ _)
  have HGB:Hid (Rw wb gh 79 [.int .u64 0, .int .u64 0, .int .u64 0, .int .u64 0, .int .u64 0, .int .u64 0]):=hide (by rw [← HWB.out,← hgh];exact Rw.new w2 79 [.int .u64 0, .int .u64 0, .int .u64 0, .int .u64 0, .int .u64 0, .int .u64 0])
  have HGN:Hid (∀a,Ab=some a→a.block≠gh):=hide (fun a ha=>by have:=HNB.out a ha;omega)
  have HRG:Hid (r0≠gh):=hide (by have:=HR2.out.lt;omega)
  have HWG:Hid (w.heap.size≤gh):=hide (by have:=(HXA.out.trans HX2.out).size;omega)
  have KN:=hide (numbersH_any gh wb)
  have KS:Hid (∀(W:World) (v:Value),Ext wb W→PtrS gh 6 W v→Calls Tryz.prog 83 #[.slice Ab 512 cb, .int .u8 1,v] W (UPostL gh 79 [.int .u64 0, .int .u64 0, .int .u64 0, .int .u64 0, .int .u64 0, .int .u64 0] 6 1 b W)):=hide (fun W v hW hv=>
   unseal_any Ab cb b HBL.out HCB.out 1 gh 6 (by decide) 79 [.int .u64 0, .int .u64 0, .int .u64 0, .int .u64 0, .int .u64 0, .int .u64 0] v W (HRB.out.ext (HXB.out.trans hW)) (HGB.out.ext hW) hv (by decide) (fun k hk=>by rcases k with _ | _ | _ | _ | _ | _ | k;all_goals first | exact ⟨0,rfl⟩ | omega) HGN.out (ptrs_ne hv (by decide) (HGB.out.ext hW) ⟨_,_,rfl⟩) (HT.out.ext (((HXA.out.trans HX2.out).trans HXB.out).trans hW)))
  go_upto_region 6 with (first
   | (go_at_call 81;rw [HWB.out];(with_reducible refine KN.out.mono ?_);rintro e w4 ⟨vn,rfl,hx4,hp4⟩;have HX4:=hide hx4;have HP4:=hide hp4;clear hx4 hp4)
   | (go_at_call 83;(with_reducible refine (KS.out w4 vn HX4.out HP4.out).mono ?_);rintro e w5 ⟨rfl,hr5,ha5⟩;have HR5:=hide hr5;have HA5:=hide ha5;clear hr5 ha5))
  obtain ⟨H,HH⟩:∃H,Hid (rhH D i=H):=⟨_,hide rfl⟩
  have HHC:Hid (H.cs=if unsE 1 b=0 then rowK b [.int .u64 0, .int .u64 0, .int .u64 0, .int .u64 0, .int .u64 0, .int .u64 0] 6 else [.int .u64 0, .int .u64 0, .int .u64 0, .int .u64 0, .int .u64 0, .int .u64 0]):=hide (by
   rw [← HH.out]
   unfold rhH
   rw [HRE.out,HBB.out]
   split
   ·exact hdOf_cs b
   ·rfl)
  have HR6:Hid (Rw w5 gh 79 [.int .u64 (H.ep:Int), .int .u64 (H.old:Int), .int .u64 (H.st:Int), .int .u64 (H.fi:Int), .int .u64 (H.ck:Int), .int .u64 (H.cn:Int)]):=hide (by rw [← HHC.out] at HR5;exact HR5.out)
  have HR7:Hid (Rw w5 r0 79 [.int .u64 0, .int .u64 0, .int .u64 0, .int .u64 0, .int .u64 0, .int .u64 0]):=hide (((HR2.out.ext HXB.out).ext HX4.out).alt HA5.out HRG.out)
  have HX5:Hid (Ext w w5):=hide ((((HXA.out.trans HX2.out).trans HXB.out).trans HX4.out).alt HA5.out HWG.out)
  clear hgh
  have k0:=HR6.out.cell (i:=0) rfl
  have k1:=HR6.out.cell (i:=1) rfl
  have k2:=HR6.out.cell (i:=2) rfl
  have k3:=HR6.out.cell (i:=3) rfl
  have k4:=HR6.out.cell (i:=4) rfl
  have k5:=HR6.out.cell (i:=5) rfl
  go_wp2_with (first
   | ((with_reducible show wpList _ _ _ (⟨none, .store _ (.tmp 4) (.tmp 22),_,_,_,_⟩::_) _ _);refine wpList_store_rw rfl 79 (.tmp 4) (.tmp 22) rfl r0 rfl [.int .u64 (H.ep:Int), .int .u64 (H.old:Int), .int .u64 (H.st:Int), .int .u64 (H.fi:Int), .int .u64 (H.ck:Int), .int .u64 (H.cn:Int)] rfl 79 [.int .u64 0, .int .u64 0, .int .u64 0, .int .u64 0, .int .u64 0, .int .u64 0] HR7.out 6 sizeHd rfl rfl rfl ?_;intro w6 hr6 hl6;have HR8:=hide hr6;have HX6:Hid (Ext w w6):=hide (HX5.out.laid hl6 HR0.out);clear hr6 hl6))
  have d0:=HR8.out.cell (i:=0) rfl
  have d1:=HR8.out.cell (i:=1) rfl
  have d2:=HR8.out.cell (i:=2) rfl
  have d3:=HR8.out.cell (i:=3) rfl
  have d4:=HR8.out.cell (i:=4) rfl
  have d5:=HR8.out.cell (i:=5) rfl
  refine bodyPost_ret (by simp [results,Tryz.results51,go_sem,d0,d1,d2,d3,d4,d5];try rfl) rfl ?_
  refine ⟨?_,HX6.out⟩
  rw [HH.out,HRE.out]
  rfl
 ·have HRE:Hid (rhE D i=e0):=hide (by unfold rhE;rw [HE0.out,if_pos he])
  have HRH:Hid (rhH D i=hd0):=hide (by unfold rhH;rw [HRE.out,if_neg he])
  have hee:(e0 !=0)=true:=by simpa using he
  go_wp2_with (first
   | ((with_reducible show wpList _ _ _ (⟨none, .store _ (.tmp 4) (.tmp 17),_,_,_,_⟩::_) _ _);refine wpList_store_rw rfl 79 (.tmp 4) (.tmp 17) rfl r0 rfl [.int .u64 0, .int .u64 0, .int .u64 0, .int .u64 0, .int .u64 0, .int .u64 0] rfl 79 [.int .u64 0, .int .u64 0, .int .u64 0, .int .u64 0, .int .u64 0, .int .u64 0] HR2.out 6 sizeHd rfl rfl rfl ?_;intro w3 hr3 hl3;have HR3:=hide hr3;have HX3:Hid (Ext w w3):=hide ((HXA.out.trans HX2.out).laid hl3 HR0.out);clear hr3 hl3))
  have d0:=HR3.out.cell (i:=0) rfl
  have d1:=HR3.out.cell (i:=1) rfl
  have d2:=HR3.out.cell (i:=2) rfl
  have d3:=HR3.out.cell (i:=3) rfl
  have d4:=HR3.out.cell (i:=4) rfl
  have d5:=HR3.out.cell (i:=5) rfl
  refine bodyPost_ret (by simp [results,Tryz.results51,go_sem,d0,d1,d2,d3,d4,d5];try rfl) rfl ?_
  refine ⟨?_,HX3.out⟩
  rw [HRH.out,HRE.out]
  rfl
end
structure Pt where
 num:Int
 ep:Int
 sz:Int
 by_:List UInt8
def pt0:Pt:=⟨0,0,0, []⟩
def ptLen (b:List UInt8):Nat:=min (numAt b 2).toNat 480
def ptOf (b:List UInt8):Pt:=⟨numAt b 0,numAt b 1,numAt b 2,(b.drop 32).take (ptLen b)⟩
def ptIs (D:Dk) (i:Int):Bool:=decide (gE D i=0∧unsE 2 (gB D i)=0)
def ptAt (D:Dk) (i:Int):Pt:=if ptIs D i=true then ptOf (gB D i) else pt0
def PtPost (D:Dk) (i:Int) (w:World) (e:Ending) (w':World):Prop:=
 ∃P c,e= .returned (.tuple #[.agg #[.int .u64 (ptAt D i).num, .int .u64 (ptAt D i).ep, .int .u64 (ptAt D i).sz, .slice P (ptAt D i).by_.length c], .bool (ptIs D i), .int .i64 (gE D i)])∧(ptAt D i).by_.length≤c∧Rd w' P (ptAt D i).by_∧Ext w w'
theorem sizePt:(Tryz.prog.info? 123).map (·.size)=some 4:=by kernel_rfl
theorem Rw.has {g i:Nat} {w:World} {t:TypeId} {vs:List Value} {v:Value} (h:Rw w g t vs) (hc:w.cell? ⟨g,i,none⟩=some v):vs[i]? =some v:=by
 rw [cell_of_row w g i _ _ (0,0) h,List.getElem?_toArray] at hc
 exact hc
theorem rd_laid {r:Nat} {w w':World} {A:Option Addr} {l:List UInt8} (h:Rd w A l) (hl:Laid1 r w w') (hn:∀a,A=some a→a.block≠r):Rd w' A l:=fun hn0=>by
 obtain ⟨b,off,rfl,hc⟩:=h hn0
 refine ⟨b,off,rfl,fun j u hu=> ?_⟩
 have h1:=hc j u hu
 have h2:=hl.other b (hn _ rfl)
 rw [← h1]
 exact World.cell?_of_block (a:=⟨b,off + j,none⟩) h2
section
variable {B g gd gn c:Nat} {w w1:World} {A:Option Addr} {D D':Dk} {r:Value} {e:Ending} {w':World}
theorem readPart_any (h:DiskAt B w g gd gn A c D) (b:Bd D) (i:Int) (hT:Tab w):
  Calls Tryz.prog 79 #[.pointer (some ⟨g,0,none⟩), .int .i64 i] w (PtPost D i w):=by
 have HD:=hide h
 have HB:=hide b
 have HT:=hide hT
 have KR:=hide (fun (W:World) (hW:Ext w W)=>read_uni (HD.out.ext hW) HB.out i)
 clear h b hT
 obtain ⟨r0,hr0⟩:∃r0,w.heap.size=r0:=⟨_,rfl⟩
 obtain ⟨wa,HWA⟩:∃wa,Hid (w.alloc (.cells #[.int .u64 0, .int .u64 0, .int .u64 0, .slice none 0 0] 123)=wa):=⟨_,hide rfl⟩
 have HXA:Hid (Ext w wa):=hide (by rw [← HWA.out];exact Ext.alloc _ _)
 have HRA:Hid (Rw wa r0 123 [.int .u64 0, .int .u64 0, .int .u64 0, .slice none 0 0]):=hide (by rw [← HWA.out,← hr0];exact Rw.new w 123 [.int .u64 0, .int .u64 0, .int .u64 0, .slice none 0 0])
 go_enter Tryz.func79,Tryz.ntmps79
 go_upto_region 2 with (first
  | (go_at_call 82;rw [HWA.out];(with_reducible refine (KR.out wa HXA.out).mono ?_);rintro e w2 ⟨v,rfl,hv2,hx2⟩;have HX2:Hid (Ext wa w2):=hide hx2;have HV2:=hide hv2;clear hx2 hv2))
 have HR2:Hid (Rw w2 r0 123 [.int .u64 0, .int .u64 0, .int .u64 0, .slice none 0 0]):=hide (HRA.out.ext HX2.out)
 have HR0:Hid (w.heap.size≤r0):=hide (Nat.le_of_eq hr0)
 clear hr0
 obtain ⟨e0,HE0⟩:∃e0,Hid (gE D i=e0):=⟨_,hide rfl⟩
 rw [HE0.out]
 by_cases he:e0=0
 ·subst he
  have HBL:Hid ((gB D i).length=512):=hide (gB_len HB.out i HE0.out)
  have HRE:Hid (ptIs D i=decide (unsE 2 (gB D i)=0)):=hide (by unfold ptIs;rw [HE0.out];simp)
  obtain ⟨b,HBB⟩:∃b,Hid (gB D i=b):=⟨_,hide rfl⟩
  obtain ⟨Ab,cb,rfl,hcb,hrb⟩:=HV2.out
  rw [HBB.out] at HBL HRE hrb hcb
  have HCB:Hid (512≤cb):=hide (by rw [← HBL.out];exact hcb)
  have HRB:=hide hrb
  have HNB:Hid (∀a,Ab=some a→a.block < w2.heap.size):=hide (rd_lt hrb (by rw [HBL.out];decide))
  obtain ⟨bb,off,u0,rfl,-,hbc⟩:=hrb.at (k:=0) (by rw [HBL.out];decide)
  have HBN:Hid (bb≠r0):=hide (fun e=>by
   rw [e] at hbc
   have h:=List.mem_of_getElem? (HR2.out.has hbc)
   simp at h)
  clear hbc
  rw [HBB.out,HBL.out]
  clear hcb hrb HV2
  obtain ⟨gh,hgh⟩:∃gh,w2.heap.size=gh:=⟨_,rfl⟩
  obtain ⟨wb,HWB⟩:∃wb,Hid (w2.alloc (.cells #[.int .u64 0, .int .u64 0, .int .u64 0, .slice none 0 0] 123)=wb):=⟨_,hide rfl⟩
  have HXB:Hid (Ext w2 wb):=hide (by rw [← HWB.out];exact Ext.alloc _ _)
  have HGB:Hid (Rw wb gh 123 [.int .u64 0, .int .u64 0, .int .u64 0, .slice none 0 0]):=hide (by rw [← HWB.out,← hgh];exact Rw.new w2 123 [.int .u64 0, .int .u64 0, .int .u64 0, .slice none 0 0])
  have HBG:Hid (bb≠gh):=hide (by have:=HNB.out _ rfl;simp only at this;omega)
  have HBR:Hid (∀a,some (⟨bb,off,none⟩:Addr)=some a→a.block≠r0):=hide (fun a ha=>by
   have h5:bb≠r0:=HBN.out
   injection ha with ha
   subst ha
   exact h5)
  have HGN:Hid (∀a,some (⟨bb,off,none⟩:Addr)=some a→a.block≠gh):=hide (fun a ha=>by have:=HNB.out a ha;omega)
  have HRG:Hid (r0≠gh):=hide (by have:=HR2.out.lt;omega)
  have HWG:Hid (w.heap.size≤gh):=hide (by have:=(HXA.out.trans HX2.out).size;omega)
  have KN:=hide (numbersP_any gh wb)
  have KS:Hid (∀(W:World) (v:Value),Ext wb W→PtrS gh 3 W v→Calls Tryz.prog 83 #[.slice (some ⟨bb,off,none⟩) 512 cb, .int .u8 2,v] W (UPostL gh 123 [.int .u64 0, .int .u64 0, .int .u64 0, .slice none 0 0] 3 2 b W)):=hide (fun W v hW hv=>
   unseal_any _ cb b HBL.out HCB.out 2 gh 3 (by decide) 123 [.int .u64 0, .int .u64 0, .int .u64 0, .slice none 0 0] v W (HRB.out.ext (HXB.out.trans hW)) (HGB.out.ext hW) hv (by decide) (fun k hk=>by rcases k with _ | _ | _ | k;all_goals first | exact ⟨0,rfl⟩ | omega) HGN.out (ptrs_ne hv (by decide) (HGB.out.ext hW) ⟨_,_,rfl⟩) (HT.out.ext (((HXA.out.trans HX2.out).trans HXB.out).trans hW)))
  obtain ⟨e1,HE1⟩:∃e1,Hid (unsE 2 b=e1):=⟨_,hide rfl⟩
  by_cases he1:e1=0
  ·subst he1
   have HIS:Hid (ptIs D i=true):=hide (by rw [HRE.out,HE1.out];rfl)
   have HPT:Hid (ptAt D i=ptOf b):=hide (by unfold ptAt;rw [HIS.out,if_pos rfl,HBB.out])
   go_upto_region 7 with (first
    | (go_at_call 111;rw [HWB.out];(with_reducible refine KN.out.mono ?_);rintro e w4 ⟨vn,rfl,hx4,hp4⟩;have HX4:=hide hx4;have HP4:=hide hp4;clear hx4 hp4)
    | (go_at_call 83;(with_reducible refine (KS.out w4 vn HX4.out HP4.out).mono ?_);rintro e w5 ⟨rfl,hr5,ha5⟩;rw [HE1.out];have HR5:=hide hr5;have HA5:=hide ha5;clear hr5 ha5))
   clear hgh
   have HR5b:Hid (Rw w5 gh 123 [.int .u64 (numAt b 0), .int .u64 (numAt b 1), .int .u64 (numAt b 2), .slice none 0 0]):=hide (by
    have h:=HR5.out
    rw [HE1.out,if_pos rfl] at h
    exact h)
   have HR7:Hid (Rw w5 r0 123 [.int .u64 0, .int .u64 0, .int .u64 0, .slice none 0 0]):=hide (((HR2.out.ext HXB.out).ext HX4.out).alt HA5.out HRG.out)
   have HX5:Hid (Ext w w5):=hide ((((HXA.out.trans HX2.out).trans HXB.out).trans HX4.out).alt HA5.out HWG.out)
   have HRB5:Hid (Rd w5 (some ⟨bb,off,none⟩) b):=hide (fun hn0=>by
    obtain ⟨b1,o1,he,hcell⟩:=((HRB.out.ext HXB.out).ext HX4.out) hn0
    injection he with he
    injection he with he1 he2
    refine ⟨b1,o1,by rw [← he1,← he2],fun j u hu=> ?_⟩
    exact HA5.out.cell (p:=⟨b1,o1 + j,none⟩) (by show b1≠gh;rw [← he1];exact HBG.out) (hcell j u hu))
   obtain ⟨n0,HN0⟩:∃n,Hid (numAt b 0=n):=⟨_,hide rfl⟩
   obtain ⟨n1,HN1⟩:∃n,Hid (numAt b 1=n):=⟨_,hide rfl⟩
   obtain ⟨x,HX⟩:∃n,Hid (numAt b 2=n):=⟨_,hide rfl⟩
   rw [HN0.out,HN1.out,HX.out] at HR5b
   obtain ⟨m,HM⟩:∃m,Hid (ptLen b=m):=⟨_,hide rfl⟩
   have HMX:Hid (min x 480=(m:Int)):=hide (by have:=numAt_range b 2;rw [← HM.out,← HX.out];unfold ptLen;omega)
   have hm:=HMX.out
   have hm480:(m:Int)≤480:=by omega
   have hmc:m≤cb - 32:=by have:=HCB.out;omega
   have hcb:¬cb=32:=by have:=HCB.out;omega
   have hcb2:32≤cb:=by have:=HCB.out;omega
   have k2:=HR5b.out.cell (i:=2) rfl
   have k3:=HR5b.out.cell (i:=3) rfl
   have f3:=HR5b.out.frozen 3
   clear HR5
   have hmin:(if 480 < x then 480 else x)=(m:Int):=by rw [← hm];split <;> omega
   have HMIN:=hide hmin
   clear hmin
   go_region
   rw [HMIN.out,Int.toNat_natCast]
   have HP6:Hid (Rw (w5.setCell ⟨gh,3,none⟩ (.slice (some ⟨bb,off + 32,none⟩) m (cb - 32))).drew gh 123 [.int .u64 n0, .int .u64 n1, .int .u64 x, .slice (some ⟨bb,off + 32,none⟩) m (cb - 32)]):=hide ((HR5b.out.set 3 _).ext (Ext.drew _))
   have HA6:Hid (Alt gh gh w5 (w5.setCell ⟨gh,3,none⟩ (.slice (some ⟨bb,off + 32,none⟩) m (cb - 32))).drew):=hide (Alt.set.trans (Alt.of_ext (Ext.drew _) (by have:=HR5b.out.lt;simp;omega)))
   generalize (w5.setCell ⟨gh,3,none⟩ (.slice (some ⟨bb,off + 32,none⟩) m (cb - 32))).drew=w6 at *
   have HR8:Hid (Rw w6 r0 123 [.int .u64 0, .int .u64 0, .int .u64 0, .slice none 0 0]):=hide (HR7.out.alt HA6.out HRG.out)
   have HX6:Hid (Ext w w6):=hide (HX5.out.alt HA6.out HWG.out)
   have HRB6:Hid (Rd w6 (some ⟨bb,off,none⟩) b):=hide (fun hn0=>by
    obtain ⟨b1,o1,he,hcell⟩:=HRB5.out hn0
    injection he with he
    injection he with he1 he2
    refine ⟨b1,o1,by rw [← he1,← he2],fun j u hu=> ?_⟩
    exact HA6.out.cell (p:=⟨b1,o1 + j,none⟩) (by show b1≠gh;rw [← he1];exact HBG.out) (hcell j u hu))
   clear k2 k3 f3 HR7 HX5
   have p0:=HP6.out.cell (i:=0) rfl
   have p1:=HP6.out.cell (i:=1) rfl
   have p2:=HP6.out.cell (i:=2) rfl
   have p3:=HP6.out.cell (i:=3) rfl
   go_wp2_with (first
    | ((with_reducible show wpList _ _ _ (⟨none, .store _ (.tmp 4) (.tmp 32),_,_,_,_⟩::_) _ _);refine wpList_store_rw rfl 123 (.tmp 4) (.tmp 32) rfl r0 rfl [.int .u64 n0, .int .u64 n1, .int .u64 x, .slice (some ⟨bb,off + 32,none⟩) m (cb - 32)] rfl 123 [.int .u64 0, .int .u64 0, .int .u64 0, .slice none 0 0] HR8.out 4 sizePt rfl rfl rfl ?_;intro w7 hr7 hl7;have HR9:=hide hr7;have HX7:Hid (Ext w w7):=hide (HX6.out.laid hl7 HR0.out);have HB7:Hid (Rd w7 (some ⟨bb,off,none⟩) b):=hide (rd_laid HRB6.out hl7 HBR.out);clear hr7 hl7))
   have d0:=HR9.out.cell (i:=0) rfl
   have d1:=HR9.out.cell (i:=1) rfl
   have d2:=HR9.out.cell (i:=2) rfl
   have d3:=HR9.out.cell (i:=3) rfl
   refine bodyPost_ret (by simp [results,Tryz.results79,go_sem,d0,d1,d2,d3];try rfl) rfl ?_
   unfold PtPost
   rw [HPT.out,HIS.out,HE0.out]
   have hby:(ptOf b).by_=(b.drop 32).take m:=by unfold ptOf;rw [HM.out]
   have hlen:(ptOf b).by_.length=m:=by rw [hby,List.length_take,List.length_drop,HBL.out];omega
   rw [hlen,hby,show (ptOf b).num=n0 from HN0.out,show (ptOf b).ep=n1 from HN1.out,show (ptOf b).sz=x from HX.out]
   have hrd:=HB7.out.drop 32
   rw [add_flat] at hrd
   exact ⟨_,_,rfl,hmc,hrd.take m,HX7.out⟩
  ·have HIS:Hid (ptIs D i=false):=hide (by rw [HRE.out,HE1.out];simp [he1])
   have HPT:Hid (ptAt D i=pt0):=hide (by unfold ptAt;rw [HIS.out];rfl)
   have hee:(e1 !=0)=true:=by simpa using he1
   go_upto_region 6 with (first
    | (go_at_call 111;rw [HWB.out];(with_reducible refine KN.out.mono ?_);rintro e w4 ⟨vn,rfl,hx4,hp4⟩;have HX4:=hide hx4;have HP4:=hide hp4;clear hx4 hp4)
    | (go_at_call 83;(with_reducible refine (KS.out w4 vn HX4.out HP4.out).mono ?_);rintro e w5 ⟨rfl,hr5,ha5⟩;rw [HE1.out];have HR5:=hide hr5;have HA5:=hide ha5;clear hr5 ha5))
   clear hgh
   have HR7:Hid (Rw w5 r0 123 [.int .u64 0, .int .u64 0, .int .u64 0, .slice none 0 0]):=hide (((HR2.out.ext HXB.out).ext HX4.out).alt HA5.out HRG.out)
   have HX5:Hid (Ext w w5):=hide ((((HXA.out.trans HX2.out).trans HXB.out).trans HX4.out).alt HA5.out HWG.out)
   go_wp2_with (first
    | ((with_reducible show wpList _ _ _ (⟨none, .store _ (.tmp 4) (.tmp 24),_,_,_,_⟩::_) _ _);refine wpList_store_rw rfl 123 (.tmp 4) (.tmp 24) rfl r0 rfl [.int .u64 0, .int .u64 0, .int .u64 0, .slice none 0 0] rfl 123 [.int .u64 0, .int .u64 0, .int .u64 0, .slice none 0 0] HR7.out 4 sizePt rfl rfl rfl ?_;intro w3 hr3 hl3;have HR3:=hide hr3;have HX3:Hid (Ext w w3):=hide (HX5.out.laid hl3 HR0.out);clear hr3 hl3))
   have d0:=HR3.out.cell (i:=0) rfl
   have d1:=HR3.out.cell (i:=1) rfl
   have d2:=HR3.out.cell (i:=2) rfl
   have d3:=HR3.out.cell (i:=3) rfl
   refine bodyPost_ret (by simp [results,Tryz.results79,go_sem,d0,d1,d2,d3];try rfl) rfl ?_
   unfold PtPost
   rw [HPT.out,HIS.out,HE0.out]
   exact ⟨none,0,rfl,Nat.le_refl _,Rd.nil _ _,HX3.out⟩
 ·have HRE:Hid (ptIs D i=false):=hide (by unfold ptIs;rw [HE0.out];simp [he])
  have HRH:Hid (ptAt D i=pt0):=hide (by unfold ptAt;rw [HRE.out];rfl)
  have hee:(e0 !=0)=true:=by simpa using he
  go_wp2_with (first
   | ((with_reducible show wpList _ _ _ (⟨none, .store _ (.tmp 4) (.tmp 18),_,_,_,_⟩::_) _ _);refine wpList_store_rw rfl 123 (.tmp 4) (.tmp 18) rfl r0 rfl [.int .u64 0, .int .u64 0, .int .u64 0, .slice none 0 0] rfl 123 [.int .u64 0, .int .u64 0, .int .u64 0, .slice none 0 0] HR2.out 4 sizePt rfl rfl rfl ?_;intro w3 hr3 hl3;have HR3:=hide hr3;have HX3:Hid (Ext w w3):=hide ((HXA.out.trans HX2.out).laid hl3 HR0.out);clear hr3 hl3))
  have d0:=HR3.out.cell (i:=0) rfl
  have d1:=HR3.out.cell (i:=1) rfl
  have d2:=HR3.out.cell (i:=2) rfl
  have d3:=HR3.out.cell (i:=3) rfl
  refine bodyPost_ret (by simp [results,Tryz.results79,go_sem,d0,d1,d2,d3];try rfl) rfl ?_
  unfold PtPost
  rw [HRH.out,HRE.out,HE0.out]
  exact ⟨none,0,rfl,Nat.le_refl _,Rd.nil _ _,HX3.out⟩
end
def fitsE (n:Nat) (at_ count:Int):Int:=if at_ < 0∨count < 4∨at_ > (n:Int) - 1 - count then 1 else 0
def nxE (D:Dk) (at_:Int):Nat→Int
 | 0=>0
 | k + 1=>if ptIs D (at_ + 1 + k)=true then max (nxE D at_ k) (IntKind.u64.wrap ((ptAt D (at_ + 1 + k)).ep + 1)) else nxE D at_ k
theorem ptAt_ep (D:Dk) (i:Int):0≤(ptAt D i).ep∧(ptAt D i).ep < 18446744073709551616:=by
 unfold ptAt
 split
 ·exact numAt_range _ 1
 ·exact ⟨by decide,by decide⟩
theorem nxE_range (D:Dk) (at_:Int):∀k,0≤nxE D at_ k∧nxE D at_ k < 18446744073709551616
 | 0=>by unfold nxE;omega
 | k + 1=>by
  have h:=nxE_range D at_ k
  have h2:0≤IntKind.u64.wrap ((ptAt D (at_ + 1 + k)).ep + 1)∧IntKind.u64.wrap ((ptAt D (at_ + 1 + k)).ep + 1) < 18446744073709551616:=by rw [IntKind.wrap_u64];omega
  unfold nxE
  split <;> omega
section
variable {B g gd gn c:Nat} {w w1:World} {A:Option Addr} {D D':Dk} {r:Value} {e:Ending} {w':World}
theorem fits_any (h:DiskAt B w g gd gn A c D) (b:Bd D) (at_ count:Int) (h1: -9223372036854775808≤at_∧at_ < 9223372036854775808) (h2: -9223372036854775808≤count∧count < 9223372036854775808):Calls Tryz.prog 48 #[.pointer (some ⟨g,0,none⟩), .int .i64 at_, .int .i64 count] w (Same w (.int .i64 (fitsE D.dur.length at_ count))):=by
 have KL:=hide (len_any h)
 have hm:=b.ok.max
 obtain ⟨n,HN⟩:∃n,Hid (D.dur.length=n):=⟨_,hide rfl⟩
 rw [HN.out] at KL hm ⊢
 clear h b
 by_cases ha:at_ < 0
 ·have HE:Hid (fitsE n at_ count=1):=hide (by unfold fitsE;rw [if_pos (.inl ha)])
  rw [HE.out]
  go_enter Tryz.func48,Tryz.ntmps48
  go_wp2_with (go_at_call 27;(with_reducible refine KL.out.mono ?_);rintro e w2 ⟨rfl,rfl⟩)
  go_ret
  exact ⟨rfl,rfl⟩
 ·by_cases hc:count < 4
  ·have HE:Hid (fitsE n at_ count=1):=hide (by unfold fitsE;rw [if_pos (.inr (.inl hc))])
   rw [HE.out]
   go_enter Tryz.func48,Tryz.ntmps48
   go_wp2_with (go_at_call 27;(with_reducible refine KL.out.mono ?_);rintro e w2 ⟨rfl,rfl⟩)
   go_ret
   exact ⟨rfl,rfl⟩
  ·have hw1:IntKind.i64.wrap ((n:Int) - 1)=(n:Int) - 1:=by rw [IntKind.wrap_i64];omega
   have hw2:IntKind.i64.wrap ((n:Int) - 1 - count)=(n:Int) - 1 - count:=by rw [IntKind.wrap_i64];omega
   by_cases hg:at_ > (n:Int) - 1 - count
   ·have HE:Hid (fitsE n at_ count=1):=hide (by unfold fitsE;rw [if_pos (.inr (.inr hg))])
    rw [HE.out]
    go_enter Tryz.func48,Tryz.ntmps48
    go_wp2_with (go_at_call 27;(with_reducible refine KL.out.mono ?_);rintro e w2 ⟨rfl,rfl⟩)
    go_ret
    exact ⟨rfl,rfl⟩
   ·have HE:Hid (fitsE n at_ count=0):=hide (by unfold fitsE;rw [if_neg (by omega)])
    rw [HE.out]
    go_enter Tryz.func48,Tryz.ntmps48
    go_wp2_with (go_at_call 27;(with_reducible refine KL.out.mono ?_);rintro e w2 ⟨rfl,rfl⟩)
    go_ret
    exact ⟨rfl,rfl⟩
theorem gE_in (at_:Int) (k:Nat) (h0:0≤at_) (hk:at_ + 1 + k < (D.dur.length:Int)):gE D (at_ + 1 + k)=if D.off=true then 8 else 0:=by
 unfold gE
 rw [if_neg (by omega)]
def nxA (D:Dk) (at_:Int) (count:Nat):Int×Int:=if D.off=true then (0,8) else (nxE D at_ count,0)
theorem nextEpoch_any (h:DiskAt B w g gd gn A c D) (b:Bd D) (at_:Int) (count:Nat) (h0:0≤at_) (h4:4≤count) (hf:at_ + 1 + count≤(D.dur.length:Int)) (hT:Tab w):
  Calls Tryz.prog 49 #[.pointer (some ⟨g,0,none⟩), .int .i64 at_, .int .i64 (count:Int)] w (fun e w' =>e= .returned (.tuple #[.int .u64 (nxA D at_ count).1, .int .i64 (nxA D at_ count).2])∧Ext w w'):=by
 have HD:=hide h
 have HT:=hide hT
 have HB:=hide b
 have hmx:=b.ok.max
 have KR:=hide (fun (W:World) (hW:Ext w W) (i:Int)=>readPart_any (HD.out.ext hW) HB.out i (HT.out.ext hW))
 have HX0:Hid (Ext w w):=hide (Ext.refl w)
 have hat:at_ < 5000:=by omega
 have hct:count < 5000:=by omega
 have HF:=hide hf
 clear h b hT hf hmx
 go_enter Tryz.func49,Tryz.ntmps49
 go_wp2
 go_loopw [8,14] (fun u i wr=>∃k:Nat,k≤count∧Hid (D.off=true→k=0)∧u= .int .u64 (nxE D at_ k)∧i= .int .i64 (k:Int)∧Hid (Ext w wr)) (fun _ i _=>count - (intOf i).toNat)
 case atStart=>exact ⟨0,Nat.zero_le _,hide fun _=>rfl,rfl,rfl,HX0⟩
 case round=>
  obtain ⟨k,hk,hoff,rfl,rfl,HX⟩:=hrel
  by_cases hlt:k < count
  ·have hki:(k:Int) < (count:Int):=by omega
   have hw1:IntKind.i64.wrap (at_ + 1)=at_ + 1:=by rw [IntKind.wrap_i64];omega
   have hw2:IntKind.i64.wrap (at_ + 1 + (k:Int))=at_ + 1 + (k:Int):=by rw [IntKind.wrap_i64];omega
   obtain ⟨x,HXX⟩:∃x,Hid (nxE D at_ k=x):=⟨_,hide rfl⟩
   have HXR:Hid (0≤x∧x < 18446744073709551616):=hide (by rw [← HXX.out];exact nxE_range D at_ k)
   rw [HXX.out]
   have HGE:Hid (gE D (at_ + 1 + k)=if D.off=true then 8 else 0):=hide (gE_in at_ k h0 (by have:=HF.out;omega))
   have HNX:Hid (nxE D at_ (k + 1)=if ptIs D (at_ + 1 + k)=true then max x (IntKind.u64.wrap ((ptAt D (at_ + 1 + k)).ep + 1)) else x):=hide (by rw [← HXX.out];rfl)
   have HEP:Hid (0≤(ptAt D (at_ + 1 + k)).ep∧(ptAt D (at_ + 1 + k)).ep < 18446744073709551616):=hide (ptAt_ep _ _)
   obtain ⟨P0,HP0⟩:∃P0,Hid (ptAt D (at_ + 1 + k)=P0):=⟨_,hide rfl⟩
   obtain ⟨q,HQ⟩:∃q,Hid (ptIs D (at_ + 1 + k)=q):=⟨_,hide rfl⟩
   obtain ⟨ge,HG⟩:∃ge,Hid (gE D (at_ + 1 + k)=ge):=⟨_,hide rfl⟩
   rw [HP0.out] at HEP
   rw [HP0.out,HQ.out] at HNX
   rw [HG.out] at HGE
   go_upto_region 6 with (first
    | (go_at_call 79;(with_reducible refine (KR.out wr HX.out _).mono ?_);rintro e w2 ⟨P,pc,rfl,hpc,hrp,hx2⟩;rw [HP0.out,HQ.out,HG.out];have HX2:Hid (Ext w w2):=hide (HX.out.trans hx2);clear hrp hx2 hpc))
   have HX3:=hide (HX2.out.trans (Ext.alloc w2 (.cells #[.int .u64 P0.num, .int .u64 P0.ep, .int .u64 P0.sz, .slice P P0.by_.length pc] 123)))
   have hc1:=(Rw.new w2 123 [.int .u64 P0.num, .int .u64 P0.ep, .int .u64 P0.sz, .slice P P0.by_.length pc]).cell (i:=1) rfl
   obtain ⟨y,HY⟩:∃y,Hid (P0.ep=y):=⟨_,hide rfl⟩
   rw [HY.out] at hc1 HEP HNX HX3 ⊢
   have HOF:Hid (D.off=false→(D.off=true→k + 1=0)):=hide (fun h h2=>by rw [h] at h2;cases h2)
   cases hd:D.off with
   | true=>
    have HNA:Hid (nxA D at_ count=(0,8)):=hide (by unfold nxA;rw [hd];rfl)
    rw [hd,if_pos rfl] at HGE
    have hge:ge=8:=HGE.out
    subst hge
    go_wp2
    go_ret2
    exact ⟨by rw [HNA.out];rfl,HX3.out⟩
   | false=>
    have HOD:=hide (HOF.out hd)
    rw [hd,if_neg (by decide)] at HGE
    clear hd
    have hge:ge=0:=HGE.out
    subst hge
    cases q with
    | false=>
     have HN2:Hid (nxE D at_ (k + 1)=x):=hide (by rw [HNX.out,if_neg (by decide)])
     go_wp2
     refine ⟨⟨k + 1,by omega,HOD,by rw [HN2.out],by go_num,HX3⟩,by simp [intOf];omega⟩
    | true=>
     have HN2:Hid (nxE D at_ (k + 1)=max x (IntKind.u64.wrap (y + 1))):=hide (by rw [HNX.out,if_pos rfl])
     have HMX:Hid ((if x < IntKind.u64.wrap (y + 1) then IntKind.u64.wrap (y + 1) else x)=nxE D at_ (k + 1)):=hide (by rw [HN2.out];split <;> omega)
     go_wp2
     rw [HMX.out]
     refine ⟨⟨k + 1,by omega,HOD,rfl,by go_num,HX3⟩,by simp [intOf];omega⟩
  ·obtain rfl:k=count:=by omega
   have hki:¬(k:Int) < (k:Int):=by omega
   cases hd:D.off with
   | true=>have:=hoff.out hd;omega
   | false=>
    have HNA:Hid (nxA D at_ k=(nxE D at_ k,0)):=hide (by unfold nxA;rw [hd];rfl)
    go_wp2
    go_ret2
    exact ⟨by rw [HNA.out];rfl,HX.out⟩
end
def fmtHd (D:Dk) (at_:Int) (count:Nat):Hd:=⟨(nxE D at_ count).toNat,(nxE D at_ count).toNat,480,480,0,count⟩
def fmtB (D:Dk) (at_:Int) (count:Nat):List UInt8:=sealB 1 (fmtHd D at_ count).ns []
def fmtE (D:Dk) (at_ count:Int):Int:=
 if fitsE D.dur.length at_ count≠0 then fitsE D.dur.length at_ count else if D.off=true then 8
 else if wE D at_ (fmtB D at_ count.toNat)≠0 then wE D at_ (fmtB D at_ count.toNat) else sE (wD D at_ (fmtB D at_ count.toNat))
def fmtD (D:Dk) (at_ count:Int):Dk:=
 if fitsE D.dur.length at_ count≠0 then D else if D.off=true then D
 else if wE D at_ (fmtB D at_ count.toNat)≠0 then wD D at_ (fmtB D at_ count.toNat) else sD (wD D at_ (fmtB D at_ count.toNat))
theorem fmtHd_ok {D:Dk} {at_:Int} {count:Nat} (h:count < 5000):(fmtHd D at_ count).Ok:=by
 have h1:=nxE_range D at_ count
 exact ⟨by show (nxE D at_ count).toNat < _;omega,by show (nxE D at_ count).toNat < _;omega,by show 480 < _;omega,by show 480 < _;omega,by show 0 < _;omega,by show count < _;omega⟩
theorem fits_in {n:Nat} {at_ count:Int} (h:fitsE n at_ count=0):0≤at_∧4≤count∧at_ + 1 + count≤(n:Int):=by
 unfold fitsE at h
 split at h
 ·cases h
 ·omega
theorem fits_two (n:Nat) (at_ count:Int):fitsE n at_ count=0∨fitsE n at_ count=1:=by
 unfold fitsE
 split
 ·exact .inr rfl
 ·exact .inl rfl
section
variable {B g gd gn c:Nat} {w w1:World} {A:Option Addr} {D D':Dk} {r:Value} {e:Ending} {w':World}
theorem DPost.trans {A1:Option Addr} {D2:Dk} {r2:Value} {e2:Ending} {w2:World} (h2:Dfr g gd gn A w w1) (h3:Newer w A A1) (h:DPost B g gd gn w1 A1 r2 D2 e2 w2):DPost B g gd gn w A r2 D2 e2 w2:=by
 obtain ⟨A',c',he,hd,hf,hn⟩:=h
 exact ⟨A',c',he,hd,h2.trans hf h3,h3.trans hn h2.size⟩
end
section
variable {g gd gn c:Nat} {w0 w w1:World} {A:Option Addr} {D D':Dk} {r:Value} {e:Ending} {w':World}
theorem format_any (hx0:Ext w0 w) (h:DiskAt w0.heap.size w g gd gn A c D) (b:Bd D) (hp:D.pen.length < 900000) (ho:D.ops < 900000) (hT:Tab w0) (at_ count:Int) (h1: -9223372036854775808≤at_∧at_ < 9223372036854775808) (h2: -9223372036854775808≤count∧count < 9223372036854775808):
  Calls Tryz.prog 28 #[.pointer (some ⟨g,0,none⟩), .int .i64 at_, .int .i64 count] w (DPost w0.heap.size g gd gn w A (.int .i64 (fmtE D at_ count)) (fmtD D at_ count)):=by
 have HD:=hide h
 have HB:=hide b
 have HX0:=hide hx0
 have HT:Hid (Tab w):=hide (hT.ext hx0)
 have hmx:=b.ok.max
 have KF:=hide (fits_any h b at_ count h1 h2)
 rcases fits_two D.dur.length at_ count with hf | hf
 ·obtain ⟨i0,i4,i5⟩:=fits_in hf
  obtain ⟨n,rfl⟩:∃n:Nat,count=(n:Int):=⟨count.toNat,by omega⟩
  have KN:=hide (nextEpoch_any h b at_ n i0 (by omega) (by omega) HT.out)
  rw [hf] at KF
  cases hd:D.off with
  | true=>
   have HE:Hid (fmtE D at_ n=8∧fmtD D at_ n=D):=hide (by unfold fmtE fmtD;rw [hf,hd];exact ⟨rfl,rfl⟩)
   have HNA:Hid (nxA D at_ n=(0,8)):=hide (by unfold nxA;rw [hd];rfl)
   rw [HNA.out] at KN
   rw [HE.out.1,HE.out.2]
   clear h b hx0 hf hmx hd hp ho hT i0 i4 i5 h1 h2
   go_enter Tryz.func28,Tryz.ntmps28
   go_wp2_with (first
    | (go_at_call 48;(with_reducible refine KF.out.mono ?_);rintro e w2 ⟨rfl,rfl⟩)
    | (go_at_call 49;(with_reducible refine KN.out.mono ?_);rintro e w2 ⟨rfl,hx2⟩;have HX2:=hide hx2;clear hx2))
   go_ret
   exact DPost.same HD.out HX2.out rfl
  | false=>
   have HNA:Hid (nxA D at_ n=(nxE D at_ n,0)):=hide (by unfold nxA;rw [hd];rfl)
   rw [HNA.out] at KN
   have hn5:n < 5000:=by omega
   obtain ⟨q,HQ⟩:∃q,Hid (fmtB D at_ n=q):=⟨_,hide rfl⟩
   have HFE:Hid (fmtE D at_ n=if wE D at_ q≠0 then wE D at_ q else sE (wD D at_ q)):=hide (by unfold fmtE;rw [hf,if_neg (by decide),hd,if_neg (by decide),Int.toNat_natCast,HQ.out])
   have HFD:Hid (fmtD D at_ n=if wE D at_ q≠0 then wD D at_ q else sD (wD D at_ q)):=hide (by unfold fmtD;rw [hf,if_neg (by decide),hd,if_neg (by decide),Int.toNat_natCast,HQ.out])
   obtain ⟨x,HX⟩:∃x:Nat,Hid (nxE D at_ n=(x:Int)):=⟨(nxE D at_ n).toNat,hide (by have:=nxE_range D at_ n;omega)⟩
   rw [HX.out] at KN
   have HHD:Hid (fmtHd D at_ n=⟨x,x,480,480,0,n⟩):=hide (by unfold fmtHd;rw [HX.out,Int.toNat_natCast])
   have KW:Hid (∀W,Ext w W→Calls Tryz.prog 50 #[.pointer (some ⟨g,0,none⟩), .int .i64 at_, .agg #[.int .u64 (x:Int), .int .u64 (x:Int), .int .u64 480, .int .u64 480, .int .u64 0, .int .u64 (n:Int)]] W (DPost w0.heap.size g gd gn W A (.int .i64 (wE D at_ q)) (wD D at_ q))):=hide (fun W hW=>by
    have k:=writeHead_any (HD.out.ext hW) HB.out (Nat.le_trans HX0.out.size hW.size) at_ (fmtHd D at_ n) (fmtHd_ok hn5) (HT.out.ext hW)
    rw [show sealB 1 (fmtHd D at_ n).ns []=q from HQ.out,HHD.out] at k
    exact k)
   have hnw:IntKind.u64.wrap (n:Int)=(n:Int):=by rw [IntKind.wrap_u64];omega
   obtain ⟨b1,b2,b3,b4⟩:=wD_bd b hp ho at_ q
   obtain ⟨e1,HE1⟩:∃e1,Hid (wE D at_ q=e1):=⟨_,hide rfl⟩
   obtain ⟨D1,HD1⟩:∃D1,Hid (wD D at_ q=D1):=⟨_,hide rfl⟩
   rw [HE1.out,HD1.out] at HFE HFD
   have KW:Hid (∀W,Ext w W→Calls Tryz.prog 50 #[.pointer (some ⟨g,0,none⟩), .int .i64 at_, .agg #[.int .u64 (x:Int), .int .u64 (x:Int), .int .u64 480, .int .u64 480, .int .u64 0, .int .u64 (n:Int)]] W (DPost w0.heap.size g gd gn W A (.int .i64 e1) D1)):=hide (by rw [← HE1.out,← HD1.out];exact KW.out)
   rw [HFE.out,HFD.out]
   have hb1:=b1
   have HB1:Hid (Bd D1):=hide (by rw [← HD1.out];exact hb1)
   clear h b hx0 hf hmx hd hp ho hT i0 i4 i5 h1 h2 b1 b2 b3 b4 hb1
   go_enter Tryz.func28,Tryz.ntmps28
   go_upto_region 9 with (first
    | (go_at_call 48;(with_reducible refine KF.out.mono ?_);rintro e w2 ⟨rfl,rfl⟩)
    | (go_at_call 49;(with_reducible refine KN.out.mono ?_);rintro e w2 ⟨rfl,hx2⟩;have XA:Hid (Ext w (w2.alloc (.cells #[.int .u64 (x:Int), .int .u64 (x:Int), .int .u64 480, .int .u64 480, .int .u64 0, .int .u64 (n:Int)] 79))):=hide (hx2.trans (Ext.alloc _ _));clear hx2)
    | (go_at_call 50;(with_reducible refine (KW.out _ XA.out).mono ?_);rintro e w3 hp3;obtain ⟨A3,c3,rfl,hd3,hf3,hn3⟩:=DPost.pre XA.out hp3;have HD3:=hide hd3;have HF3:=hide hf3;have HN3:=hide hn3;have HX3:Hid (Ext w0 w3):=hide (Dfr.grown HX0.out HD.out hf3);clear hp3 hd3 hf3 hn3))
   by_cases he1:e1=0
   ·rw [if_neg (by simpa using he1),if_neg (by simpa using he1)]
    subst he1
    have KS:=hide (sync_uni HD3.out HB1.out HX3.out.size)
    go_wp2_with (go_at_call 47;(with_reducible refine KS.out.mono ?_);rintro e w4 hp4;have HP4:=hide (DPost.trans HF3.out HN3.out hp4);obtain ⟨A4,c4,rfl,-⟩:=hp4)
    go_ret
    exact HP4.out
   ·rw [if_pos he1,if_pos he1]
    have hee:(e1 !=0)=true:=by simpa using he1
    go_wp2
    go_ret
    exact ⟨A3,c3,rfl,HD3.out,HF3.out,HN3.out⟩
 ·have HE:Hid (fmtE D at_ count=1∧fmtD D at_ count=D):=hide (by unfold fmtE fmtD;rw [hf];exact ⟨rfl,rfl⟩)
  rw [hf] at KF
  rw [HE.out.1,HE.out.2]
  clear h b hx0 hf hmx hp ho hT h1 h2
  go_enter Tryz.func28,Tryz.ntmps28
  go_wp2_with (go_at_call 48;(with_reducible refine KF.out.mono ?_);rintro e w2 ⟨rfl,rfl⟩)
  go_ret
  exact DPost.same HD.out (Ext.refl _) rfl
end
structure Lg where
 at_:Nat
 hd:Hd
 sure:Nat
 tail:List UInt8
 held:Nat
structure Bk where
 q:Nat
 g:Nat
 gd:Nat
 gn:Nat
 A:Option Addr
 c:Nat
 tv:Value
def Bk.has (X:Bk) (k:Nat):Prop:=k=X.q∨k=X.g∨k=X.gd∨k=X.gn∨(∃a,X.A=some a∧a.block=k)∨X.tv.ownBlock=some k
def logC (g:Nat) (tv:Value) (L:Lg):List Value:=
 [.pointer (some ⟨g,0,none⟩), .int .i64 (L.at_:Int), .int .u64 (L.hd.ep:Int), .int .u64 (L.hd.old:Int), .int .u64 (L.hd.st:Int), .int .u64 (L.hd.fi:Int), .int .u64 (L.hd.ck:Int), .int .u64 (L.hd.cn:Int), .int .u64 (L.sure:Int),tv, .int .i64 (L.held:Int)]
structure LgAt (w0 w:World) (X:Bk) (D:Dk) (L:Lg):Prop where
 ext:Ext w0 w
 disk:DiskAt w0.heap.size w X.g X.gd X.gn X.A X.c D
 blk:Rw w X.q 84 (logC X.g X.tv L)
 tail:Own w w0.heap.size X.tv L.tail
 base:w0.heap.size≤X.q
structure Lg.Ok (L:Lg) (D:Dk):Prop where
 hd:L.hd.Ok
 cn:4≤L.hd.cn∧L.hd.cn≤4096
 at_:L.at_ + 1 + L.hd.cn≤D.dur.length
 sure:L.sure < 1152921504606846976
 tail:L.tail.length < 1073741824
 held:L.held < 1152921504606846976
structure Lfr (X:Bk) (w w':World):Prop where
 os:w'.os=w.os
 tape:w'.tape=w.tape
 output:w'.output=w.output
 size:w.heap.size≤w'.heap.size
 other:∀k,k < w.heap.size→¬X.has k→w'.heap[k]? =w.heap[k]?
theorem Lfr.ext {X:Bk} {w w':World} (h:Ext w w'):Lfr X w w':=⟨h.os,h.tape,h.output,h.size,fun k hk _=>Below.block h k hk⟩
def flo (u:Nat):Nat:=u - u % 480
def secOf (L:Lg) (a:Nat):Nat:=L.at_ + 1 + a / 480 % L.hd.cn
theorem flo_le (u:Nat):flo u≤u:=Nat.sub_le _ _
theorem secOf_lt {L:Lg} {D:Dk} (ok:L.Ok D) (a:Nat):secOf L a < D.dur.length:=by
 have h1:=ok.at_
 have h2:=Nat.mod_lt (a / 480) (show 0 < L.hd.cn by have:=ok.cn;omega)
 unfold secOf;omega
theorem rd_laid2 {b:Nat} {w w':World} {P:Option Addr} {l:List UInt8} {t:TypeId} {vs:List Value} (h:Rd w P l) (hr:Rw w b t vs) (hv:∀v∈vs,∀z,v≠ .int .u8 z) (hl:Laid1 b w w'):Rd w' P l:=fun hn=>by
 obtain ⟨bb,off,rfl,hc⟩:=h hn
 refine ⟨bb,off,rfl,fun j u hu=> ?_⟩
 have h1:=hc j u hu
 have hne:bb≠b:=fun e=>by
  subst e
  exact hv _ (List.mem_of_getElem? (hr.has h1)) _ rfl
 rw [← h1]
 exact World.cell?_of_block (a:=⟨bb,off + j,none⟩) (hl.other bb hne)
theorem box4 {w wa:World} {P:Option Addr} {l:List UInt8} {b:Nat} {t:TypeId} {v0 v1 v2 v3:Value} (hr:Rw w b t [.int .u64 0, .int .u64 0, .int .u64 0, .slice none 0 0]) (hrd:Rd w P l) (hx:Ext wa w) (hb:wa.heap.size≤b):
  Rw ((((w.setCell ⟨b,0,none⟩ v0).setCell ⟨b,1,none⟩ v1).setCell ⟨b,2,none⟩ v2).setCell ⟨b,3,none⟩ v3) b t [v0,v1,v2,v3]∧Rd ((((w.setCell ⟨b,0,none⟩ v0).setCell ⟨b,1,none⟩ v1).setCell ⟨b,2,none⟩ v2).setCell ⟨b,3,none⟩ v3) P l∧Ext wa ((((w.setCell ⟨b,0,none⟩ v0).setCell ⟨b,1,none⟩ v1).setCell ⟨b,2,none⟩ v2).setCell ⟨b,3,none⟩ v3):=by
 refine ⟨(((hr.set 0 v0).set 1 v1).set 2 v2).set 3 v3,fun hn=> ?_, ?_⟩
 ·obtain ⟨bb,off,rfl,hc⟩:=hrd hn
  refine ⟨bb,off,rfl,fun j u hu=> ?_⟩
  have h1:=hc j u hu
  have hne:bb≠b:=fun e=>by
   subst e
   have:=List.mem_of_getElem? (hr.has h1)
   simp at this
  rw [← h1]
  refine World.cell?_of_block (a:=⟨bb,off + j,none⟩) ?_
  show _=w.heap[bb]?
  rw [Below.heap_setCell _ ⟨b,3,none⟩ _ bb hne,Below.heap_setCell _ ⟨b,2,none⟩ _ bb hne,Below.heap_setCell _ ⟨b,1,none⟩ _ bb hne,Below.heap_setCell _ ⟨b,0,none⟩ _ bb hne]
 ·exact Below.setCell (p:=⟨b,3,none⟩) (Below.setCell (p:=⟨b,2,none⟩) (Below.setCell (p:=⟨b,1,none⟩) (Below.setCell (p:=⟨b,0,none⟩) hx hb _) hb _) hb _) hb _
theorem floor_any (u:Nat) (w:World) (h:u < 18446744073709551616):Calls Tryz.prog 84 #[.int .u64 (u:Int)] w (Same w (.int .u64 (flo u:Int))):=by
 have e:((flo u:Nat):Int)=(u:Int) - (u:Int) % 480:=by unfold flo;have:=Nat.mod_le u 480;omega
 have hw:IntKind.u64.wrap ((u:Int) - (u:Int) % 480)=(u:Int) - (u:Int) % 480:=by rw [IntKind.wrap_u64];omega
 have hw2:IntKind.u64.wrap ((u:Int) % 480)=(u:Int) % 480:=by rw [IntKind.wrap_u64];omega
 rw [e]
 clear e
 go_enter Tryz.func84,Tryz.ntmps84
 go_wp2
 go_ret
 exact ⟨by first | rfl | simp [*],rfl⟩
section
variable {w0 w:World} {X:Bk} {D:Dk} {L:Lg}
theorem LgAt.ext_ {w':World} (h:LgAt w0 w X D L) (hx:Ext w w'):LgAt w0 w' X D L:=⟨h.ext.trans hx,h.disk.ext hx,h.blk.ext hx,h.tail.ext hx,h.base⟩
theorem tailAt_any (h:LgAt w0 w X D L) (ok:L.Ok D):Calls Tryz.prog 88 #[.pointer (some ⟨X.q,0,none⟩)] w (Same w (.int .u64 (flo L.sure:Int))):=by
 have c8:=h.blk.cell (i:=8) rfl
 have KF:=hide (floor_any L.sure w (by have:=ok.sure;omega))
 clear h ok
 go_enter Tryz.func88,Tryz.ntmps88
 go_wp2_with (go_at_call 84;(with_reducible refine KF.out.mono ?_);rintro e w2 ⟨rfl,rfl⟩)
 go_ret
 exact ⟨rfl,rfl⟩
theorem sector_any (h:LgAt w0 w X D L) (ok:L.Ok D) (b:D.Ok) (a:Nat) (ha:a < 18446744073709551616):Calls Tryz.prog 119 #[.pointer (some ⟨X.q,0,none⟩), .int .u64 (a:Int)] w (fun e w' =>e= .returned (.int .i64 (secOf L a:Int))∧Ext w w'):=by
 have c1:=h.blk.cell (i:=1) rfl
 have c7:=h.blk.cell (i:=7) rfl
 obtain ⟨hcn,hcn2⟩:=ok.cn
 have hat:=ok.at_
 have hmx:=b.max
 have hsl:=secOf_lt ok a
 obtain ⟨s,HS⟩:∃s,Hid (secOf L a=s):=⟨_,hide rfl⟩
 have HSE:Hid ((s:Int)=(L.at_:Int) + 1 + (a:Int) / 480 % (L.hd.cn:Int)):=hide (by rw [← HS.out];unfold secOf;simp only [Int.natCast_add,Int.natCast_emod,Int.natCast_ediv];rfl)
 rw [HS.out] at hsl ⊢
 generalize L.at_=at_ at *
 generalize L.hd.cn=cn at *
 have hne:¬(cn:Int)=0:=by omega
 have hne2:((cn:Int)==0)=false:=by simpa using hne
 have hc4:(4:Int)≤(cn:Int):=by omega
 have hmod0:0≤(a:Int) / 480 % (cn:Int):=Int.emod_nonneg _ hne
 have hmod1:(a:Int) / 480 % (cn:Int) < (cn:Int):=Int.emod_lt_of_pos _ (by omega)
 have hw1:IntKind.i64.wrap ((at_:Int) + 1)=(at_:Int) + 1:=by rw [IntKind.wrap_i64];omega
 have hw2:IntKind.i64.wrap ((a:Int) / 480 % (cn:Int))=(a:Int) / 480 % (cn:Int):=by rw [IntKind.wrap_i64];omega
 have hw3:IntKind.i64.wrap ((at_:Int) + 1 + (a:Int) / 480 % (cn:Int))=(at_:Int) + 1 + (a:Int) / 480 % (cn:Int):=by rw [IntKind.wrap_i64];omega
 clear h ok b hsl hat hmx hmod0 hmod1
 go_enter Tryz.func119,Tryz.ntmps119
 go_wp2
 go_region
 go_wp2
 go_ret
 exact ⟨by rw [HSE.out];rfl,Ext.drew _⟩
def ptThere (D:Dk) (L:Lg) (a:Nat):Bool:=ptIs D (secOf L a) && decide ((ptAt D (secOf L a)).num=((a / 480:Nat):Int))
def PartPost (D:Dk) (L:Lg) (a:Nat) (w:World) (e:Ending) (w':World):Prop:=
 ∃P c,e= .returned (.tuple #[.agg #[.int .u64 (ptAt D (secOf L a)).num, .int .u64 (ptAt D (secOf L a)).ep, .int .u64 (ptAt D (secOf L a)).sz, .slice P (ptAt D (secOf L a)).by_.length c], .bool (ptThere D L a), .int .i64 (gE D (secOf L a))])∧(ptAt D (secOf L a)).by_.length≤c∧Rd w' P (ptAt D (secOf L a)).by_∧Ext w w'
theorem part_any (h:LgAt w0 w X D L) (ok:L.Ok D) (b:Bd D) (a:Nat) (ha:a < 18446744073709551616) (hT:Tab w0):Calls Tryz.prog 116 #[.pointer (some ⟨X.q,0,none⟩), .int .u64 (a:Int)] w (PartPost D L a w):=by
 have HL:=hide h
 have HT:Hid (Tab w):=hide (hT.ext h.ext)
 have HB:=hide b
 have KS:=hide (fun (W:World) (hW:Ext w W)=>sector_any (h.ext_ hW) ok b.ok a ha)
 have KR:=hide (fun (W:World) (hW:Ext w W)=>readPart_any (HL.out.disk.ext hW) HB.out (secOf L a:Int) (HT.out.ext hW))
 obtain ⟨s,HS⟩:∃s:Int,Hid ((secOf L a:Int)=s):=⟨_,hide rfl⟩
 unfold PartPost
 rw [HS.out] at KS KR ⊢
 obtain ⟨P0,HP0⟩:∃P0,Hid (ptAt D s=P0):=⟨_,hide rfl⟩
 obtain ⟨q,HQ⟩:∃q,Hid (ptIs D s=q):=⟨_,hide rfl⟩
 obtain ⟨ge,HG⟩:∃ge,Hid (gE D s=ge):=⟨_,hide rfl⟩
 have HTH:Hid (ptThere D L a=(q && decide (P0.num=((a / 480:Nat):Int)))):=hide (by unfold ptThere;rw [HS.out,HP0.out,HQ.out])
 rw [HP0.out,HG.out,HTH.out]
 obtain ⟨r0,hr0⟩:∃r0,w.heap.size=r0:=⟨_,rfl⟩
 obtain ⟨wa,HWA⟩:∃wa,Hid (w.alloc (.cells #[.int .u64 0, .int .u64 0, .int .u64 0, .slice none 0 0] 123)=wa):=⟨_,hide rfl⟩
 have HXA:Hid (Ext w wa):=hide (by rw [← HWA.out];exact Ext.alloc _ _)
 have HRA:Hid (Rw wa r0 123 [.int .u64 0, .int .u64 0, .int .u64 0, .slice none 0 0]):=hide (by rw [← HWA.out,← hr0];exact Rw.new w 123 [.int .u64 0, .int .u64 0, .int .u64 0, .slice none 0 0])
 have c0:=(h.blk.ext HXA.out).cell (i:=0) rfl
 clear h ok b
 go_enter Tryz.func116,Tryz.ntmps116
 go_upto_region 1 with fail
 rw [HWA.out]
 have c0a:=((HL.out.blk.ext HXA.out).ext (Ext.alloc wa (.cells #[.int .u64 0, .int .u64 0, .int .u64 0, .slice none 0 0] 123))).cell (i:=0) rfl
 have HR0:Hid (r0 < wa.heap.size):=hide HRA.out.lt
 go_cut [7,8,9] from 10 to 21 (fun p x y wx=>∃b7 P pc,p= .pointer (some ⟨b7,0,none⟩)∧x= .bool q∧y= .int .i64 ge∧Hid (Rw wx b7 123 [.int .u64 P0.num, .int .u64 P0.ep, .int .u64 P0.sz, .slice P P0.by_.length pc])∧Hid (P0.by_.length≤pc)∧Hid (Rd wx P P0.by_)∧Hid (Ext wa wx)∧Hid (wa.heap.size≤b7))
 ·go_region_law (first
   | (go_simp;go_at_call 119;(with_reducible refine (KS.out _ (by first | exact (HXA.out.trans (Ext.drew _)) | exact ((HXA.out.trans (Ext.drew _)).trans (Ext.alloc _ _)))).mono ?_);rintro e w2 ⟨rfl,hx2⟩;have HE2:=hide hx2;have HX2:Hid (Ext wa w2):=hide (by first | exact ((Ext.drew _).trans hx2) | exact (((Ext.drew _).trans (Ext.alloc _ _)).trans hx2));have c0b:=(HL.out.blk.ext (HXA.out.trans HX2.out)).cell (i:=0) rfl;have c0c:=((HL.out.blk.ext (HXA.out.trans HX2.out)).ext (Ext.alloc w2 (.cells #[.int .u64 0, .int .u64 0, .int .u64 0, .slice none 0 0] 123))).cell (i:=0) rfl;clear hx2)
   | (go_simp;go_at_call 79;(with_reducible refine (KR.out _ (by first | exact (HXA.out.trans HX2.out) | exact ((HXA.out.trans HX2.out).trans (Ext.alloc _ _)))).mono ?_);rintro e w3 ⟨P,pc,rfl,hpc,hrp,hx3⟩;rw [HP0.out] at hpc hrp;rw [HP0.out,HQ.out,HG.out];have HE3:=hide hx3;have HX3:Hid (Ext wa w3):=hide (by first | exact (HX2.out.trans hx3) | exact ((HX2.out.trans (Ext.alloc _ _)).trans hx3));have HPC:=hide hpc;have HRP:=hide hrp;clear hx3 hpc hrp;first | (have hqq:Ext wa.drew w2:=HE2.out;try (obtain ⟨b7,hb7⟩:∃b7,w2.heap.size=b7:=⟨_,rfl⟩;have HR7:Rw w3 b7 123 [.int .u64 0, .int .u64 0, .int .u64 0, .slice none 0 0]:=(by rw [← hb7];exact (Rw.new w2 123 [.int .u64 0, .int .u64 0, .int .u64 0, .slice none 0 0]).ext HE3.out);have k0:=HR7.cell (i:=0) rfl;have k1:=HR7.cell (i:=1) rfl;have k2:=HR7.cell (i:=2) rfl;have k3:=HR7.cell (i:=3) rfl;have z0:=HR7.frozen 0;have z1:=HR7.frozen 1;have z2:=HR7.frozen 2;have z3:=HR7.frozen 3;have HR8:=hide HR7;clear HR7)) | (obtain ⟨b7,hb7⟩:∃b7,wa.heap.size=b7:=⟨_,rfl⟩;have HR7:Rw w3 b7 123 [.int .u64 0, .int .u64 0, .int .u64 0, .slice none 0 0]:=(by rw [← hb7];exact (((Rw.new wa 123 [.int .u64 0, .int .u64 0, .int .u64 0, .slice none 0 0]).ext (Ext.drew _)).ext HE2.out).ext HE3.out);have k0:=HR7.cell (i:=0) rfl;have k1:=HR7.cell (i:=1) rfl;have k2:=HR7.cell (i:=2) rfl;have k3:=HR7.cell (i:=3) rfl;have z0:=HR7.frozen 0;have z1:=HR7.frozen 1;have z2:=HR7.frozen 2;have z3:=HR7.frozen 3;have HR8:=hide HR7;clear HR7)))
  all_goals (go_wp2_with fail;go_meet)
  all_goals first
   | (have h8:=HR8.out;have hbb:wa.heap.size≤b7:=(by have:=HX2.out.size;omega);obtain ⟨q1,q2,q3⟩:=box4 (v0:= .int .u64 P0.num) (v1:= .int .u64 P0.ep) (v2:= .int .u64 P0.sz) (v3:= .slice P P0.by_.length pc) HR8.out HRP.out HX3.out hbb;exact ⟨b7,P,pc,rfl,rfl,rfl,hide q1,HPC,hide q2,hide q3,hide hbb⟩)
   | exact ⟨_,P,pc,rfl,rfl,rfl,hide (Rw.new w3 123 [.int .u64 P0.num, .int .u64 P0.ep, .int .u64 P0.sz, .slice P P0.by_.length pc]),HPC,hide (HRP.out.ext (Ext.alloc _ _)),hide (HX3.out.trans (Ext.alloc _ _)),hide HX3.out.size⟩
 obtain ⟨b7,P,pc,rfl,rfl,rfl,HB7,HPC,HRP,HXC,HB⟩:=hcut
 have HR9:Hid (Rw wc r0 123 [.int .u64 0, .int .u64 0, .int .u64 0, .slice none 0 0]):=hide (HRA.out.ext HXC.out)
 have hne1:¬b7=r0:=by have:=HB.out;have:=HR0.out;omega
 have hne2:¬r0=b7:=fun e=>hne1 e.symm
 have k0:=HB7.out.cell (i:=0) rfl
 have k1:=HB7.out.cell (i:=1) rfl
 have k2:=HB7.out.cell (i:=2) rfl
 have k3:=HB7.out.cell (i:=3) rfl
 have l0:=HR9.out.cell (i:=0) rfl
 have l1:=HR9.out.cell (i:=1) rfl
 have l2:=HR9.out.cell (i:=2) rfl
 have l3:=HR9.out.cell (i:=3) rfl
 have z0:=HR9.out.frozen 0
 have z1:=HR9.out.frozen 1
 have z2:=HR9.out.frozen 2
 have z3:=HR9.out.frozen 3
 obtain ⟨y,HY⟩:∃y:Int,Hid (((a / 480:Nat):Int)=y):=⟨_,hide rfl⟩
 have hya:(a:Int) / 480=y:=by rw [← HY.out];omega
 have HRR:Hid (w.heap.size≤r0):=hide (Nat.le_of_eq hr0)
 clear c0 c0a hr0
 cases q with
 | false=>
  go_wp2
  go_region
  obtain ⟨q1,q2,q3⟩:=box4 (v0:= .int .u64 P0.num) (v1:= .int .u64 P0.ep) (v2:= .int .u64 P0.sz) (v3:= .slice P P0.by_.length pc) HR9.out HRP.out (HXA.out.trans HXC.out) HRR.out
  replace q1:=q1.ext (Ext.drew _)
  replace q2:=q2.ext (Ext.drew _)
  replace q3:=q3.trans (Ext.drew _)
  clear k0 k1 k2 k3 l0 l1 l2 l3 z0 z1 z2 z3
  generalize ((((wc.setCell ⟨r0,0,none⟩ (.int .u64 P0.num)).setCell ⟨r0,1,none⟩ (.int .u64 P0.ep)).setCell ⟨r0,2,none⟩ (.int .u64 P0.sz)).setCell ⟨r0,3,none⟩ (.slice P P0.by_.length pc)).drew=wz at *
  have d0:=q1.cell (i:=0) rfl
  have d1:=q1.cell (i:=1) rfl
  have d2:=q1.cell (i:=2) rfl
  have d3:=q1.cell (i:=3) rfl
  have Q2:=hide q2
  have Q3:=hide q3
  clear q1 q2 q3
  go_wp2
  refine bodyPost_ret (by simp [results,Tryz.results116,go_sem,d0,d1,d2,d3];try rfl) rfl ?_
  refine ⟨P,pc, ?_,HPC.out,Q2.out,Q3.out⟩
  rw [HY.out]
  rfl
 | true=>
  go_wp2
  go_region
  obtain ⟨q1,q2,q3⟩:=box4 (v0:= .int .u64 P0.num) (v1:= .int .u64 P0.ep) (v2:= .int .u64 P0.sz) (v3:= .slice P P0.by_.length pc) HR9.out HRP.out (HXA.out.trans HXC.out) HRR.out
  replace q1:=q1.ext (Ext.drew _)
  replace q2:=q2.ext (Ext.drew _)
  replace q3:=q3.trans (Ext.drew _)
  clear k0 k1 k2 k3 l0 l1 l2 l3 z0 z1 z2 z3
  generalize ((((wc.setCell ⟨r0,0,none⟩ (.int .u64 P0.num)).setCell ⟨r0,1,none⟩ (.int .u64 P0.ep)).setCell ⟨r0,2,none⟩ (.int .u64 P0.sz)).setCell ⟨r0,3,none⟩ (.slice P P0.by_.length pc)).drew=wz at *
  have d0:=q1.cell (i:=0) rfl
  have d1:=q1.cell (i:=1) rfl
  have d2:=q1.cell (i:=2) rfl
  have d3:=q1.cell (i:=3) rfl
  have Q2:=hide q2
  have Q3:=hide q3
  clear q1 q2 q3
  go_wp2
  refine bodyPost_ret (by simp [results,Tryz.results116,go_sem,d0,d1,d2,d3];try rfl) rfl ?_
  refine ⟨P,pc, ?_,HPC.out,Q2.out,Q3.out⟩
  rw [HY.out]
  rfl
end
theorem own_cell {w:World} {B e size n c:Nat} {g:Nat} {vs:List Value} (h:w.ownsRow B e size (.slice (some ⟨g,0,none⟩) n c) n vs) {k:Nat} {u:Value} (hk:vs[k]? =some u):w.cell? ⟨g,k,none⟩=some u∧w.frozen? ⟨g,k,none⟩=false:=by
 rcases h.2 with ⟨hv,_⟩ | ⟨g',cap,cur,hv,hb,hg',rest⟩
 ·cases hv
 ·injection hv with hA
  injection hA with hA
  injection hA with hA
  subst hA
  have:=h.cells (g:=g) rfl k u hk
  rw [add_flat,Nat.zero_add] at this
  exact ⟨this,by simp [World.frozen?,hg']⟩
theorem own_block {w:World} {B e size n:Nat} {v:Value} {vs:List Value} (h:w.ownsRow B e size v n vs):∀k,v.ownBlock=some k→B≤k∧k < w.heap.size∧∃cs fr,w.heap[k]? =some (.cells cs e fr):=fun k hk=>by
 rcases h.2 with ⟨rfl,_⟩ | ⟨g,cap,cur,rfl,hb,hg,_⟩
 ·cases hk
 ·obtain rfl:g=k:=by
   have:(Value.slice (some ⟨g,0,none⟩) n cap).ownBlock=some g:=rfl
   rw [this] at hk
   exact Option.some.inj hk
  exact ⟨hb,(Array.getElem?_eq_some_iff.1 hg).1,_,_,hg⟩
theorem own_apart {w:World} {B B' e e' size size' n n':Nat} {v v':Value} {vs vs':List Value} (h:w.ownsRow B e size v n vs) (h':w.ownsRow B' e' size' v' n' vs') (ht:e≠e'):∀k,v.ownBlock=some k→v'.ownBlock≠some k:=fun k hk hk' =>by
 obtain ⟨_,_,cs,fr,h1⟩:=own_block h k hk
 obtain ⟨_,_,cs',fr',h2⟩:=own_block h' k hk'
 rw [h1] at h2
 injection h2 with h2
 injection h2 with _ h3 _
 exact ht h3
def Stay (w w':World):Prop:=∀(g:Nat) (t:TypeId) (vs:List Value),t≠5→Rw w g t vs→Rw w' g t vs
theorem own_apartR {w:World} {B g:Nat} {t:TypeId} {v:Value} {l:List UInt8} {vs:List Value} (h:Rw w g t vs) (ht:t≠5) (ho:Own w B v l):some g≠v.ownBlock:=fun e=>by
 rcases ho.2 with ⟨rfl,_⟩ | ⟨g2,cap,cur,rfl,_,hg,_⟩
 ·cases e
 ·injection e with e
  subst e
  unfold Rw at h
  rw [hg] at h
  injection h with h
  injection h with _ h2
  exact ht h2.symm
theorem Rw.grown {w w':World} {B g:Nat} {t:TypeId} {v:Value} {l:List UInt8} {vs:List Value} (h:Rw w g t vs) (ht:t≠5) (ho:Own w B v l) (hg:w.grownBy w' v.ownBlock):Rw w' g t vs:=
 (hg.block g h.lt (own_apartR h ht ho)).trans h
section
variable {ops:Array Oper} {rest:List Oper} {o:Oper} {a:Act} {Q:Exit→Act→World→Prop} {w:World}
theorem wpList_catG (hgd:Region.wanted o (yielded ops a.tmps)=true) (s x:Operand) (ho:o.op= .call { callee:= .builtin .append,args:= #[s,x],argTypes:= #[22,22] })
  (base:Nat) (v:Value) (l m:List UInt8) (A:Option Addr) (n c:Nat) (hs:a.eval s=v) (hx:a.eval x= .slice A n c) (hn:n=m.length) (hown:Own w base v l) (hr:Rd w A m) (hbase:base≤w.heap.size) (hlen:l.length + m.length≤140737488355328)
  (h:∀v' w',Own w' base v' (l ++ m)→Below base w w'→Stay w w'→wpList Tryz.prog ops Q rest (a.put o.dst v') w'):wpList Tryz.prog ops Q (o::rest) a w:=by
 subst hn
 obtain ⟨v',w',hrun,h2,h4,h3⟩:=run_cat w base o.type v l m A c hown hr hbase hlen
 refine wpList_wanted hgd fun K hK=> ?_
 unfold Oper.wp execOp
 simp only [ho,resolve,invoke,builtin,Sem.run_bind,Sem.run_pure,Result.andThen_ok,List.map_toArray,List.map_cons,List.map_nil,hs,hx,hrun]
 exact hK _ _ (h v' w' h2 h4 (fun _ _ _ ht hr=>hr.grown ht hown h3))
end
structure Bk.Later (X' X:Bk) (w:World):Prop where
 q:X'.q=X.q
 g:X'.g=X.g
 gd:X'.gd=X.gd
 gn:X'.gn=X.gn
 has:∀k,X'.has k→X.has k∨w.heap.size≤k
theorem Bk.Later.refl (X:Bk) (w:World):X.Later X w:=⟨rfl,rfl,rfl,rfl,fun _ h=> .inl h⟩
theorem Bk.Later.trans {X X' X'':Bk} {w w':World} (h:X'.Later X w) (k:X''.Later X' w') (hs:w.heap.size≤w'.heap.size):X''.Later X w:=
 ⟨k.q.trans h.q,k.g.trans h.g,k.gd.trans h.gd,k.gn.trans h.gn,fun b hb=>by
  rcases k.has b hb with h1 | h1
  ·exact h.has b h1
  ·exact .inr (by omega)⟩
theorem Bk.Later.up {X X':Bk} {w w':World} (h:X'.Later X w') (hs:w.heap.size≤w'.heap.size):X'.Later X w:=⟨h.q,h.g,h.gd,h.gn,fun b hb=>by
 rcases h.has b hb with h1 | h1
 ·exact .inl h1
 ·exact .inr (by omega)⟩
theorem Lfr.trans {X X':Bk} {w w' w'':World} (h:Lfr X w w') (k:Lfr X' w' w'') (hl:X'.Later X w):Lfr X w w'':=
 ⟨k.os.trans h.os,k.tape.trans h.tape,k.output.trans h.output,Nat.le_trans h.size k.size,fun b hb hn=>(k.other b (Nat.lt_of_lt_of_le hb h.size) (fun e=>by
  rcases hl.has b e with h1 | h1
  ·exact hn h1
  ·omega)).trans (h.other b hb hn)⟩
def LPost (w0 w:World) (X:Bk) (r:Value) (D':Dk) (L':Lg) (e:Ending) (w':World):Prop:=∃X',e= .returned r∧LgAt w0 w' X' D' L'∧Lfr X w w'∧X'.Later X w
section
variable {w0 w w1:World} {X:Bk} {D D':Dk} {L L':Lg} {r:Value} {e:Ending} {w':World}
theorem LPost.pre (hx:Ext w w1) (h:LPost w0 w1 X r D' L' e w'):LPost w0 w X r D' L' e w':=by
 obtain ⟨X',he,hl,hf,hn⟩:=h
 exact ⟨X',he,hl,(Lfr.ext hx).trans hf (Bk.Later.refl _ _),hn.up hx.size⟩
theorem LPost.trans {X1:Bk} (h2:Lfr X w w1) (h3:X1.Later X w) (h:LPost w0 w1 X1 r D' L' e w'):LPost w0 w X r D' L' e w':=by
 obtain ⟨X',he,hl,hf,hn⟩:=h
 exact ⟨X',he,hl,h2.trans hf h3,h3.trans hn h2.size⟩
theorem LgAt.ne (h:LgAt w0 w X D L):(X.q≠X.g∧X.q≠X.gd∧X.q≠X.gn∧(∀a,X.A=some a→a.block≠X.q))∧(∀k,X.tv.ownBlock=some k→k≠X.q∧k≠X.g∧k≠X.gd∧k≠X.gn∧∀a,X.A=some a→a.block≠k):=by
 refine ⟨⟨h.blk.apart h.disk.blk (by decide),h.blk.apart h.disk.dur (by decide),h.blk.apart h.disk.new (by decide),fun a ha=>h.blk.apart_own h.disk.pen (by decide) a ha⟩,fun k hk=> ?_⟩
 have n:∀ {b:Nat} {t:TypeId} {vs:List Value},Rw w b t vs→t≠5→k≠b:=fun hr ht e=>by
  subst e
  exact own_apartR hr ht h.tail hk.symm
 refine ⟨n h.blk (by decide),n h.disk.blk (by decide),n h.disk.dur (by decide),n h.disk.new (by decide),fun a ha e=> ?_⟩
 subst e
 exact own_apart h.disk.pen h.tail (by decide) a.block (by rw [ha];rfl) hk
theorem Own.keep1 {B:Nat} {v:Value} {l:List UInt8} (h:Own w B v l) (hk:∀k,v.ownBlock=some k→w'.heap[k]? =w.heap[k]?):Own w' B v l:=by
 refine ⟨h.1, ?_⟩
 rcases h.2 with hn | ⟨g',cap,cur,hv,hb,hg,rest⟩
 ·exact .inl hn
 ·refine .inr ⟨g',cap,cur,hv,hb, ?_,rest⟩
  rw [hk g' (by rw [hv];rfl)]
  exact hg
theorem LPost.of_disk (h:LgAt w0 w X D L) (hp:DPost w0.heap.size X.g X.gd X.gn w X.A r D' e w'):LPost w0 w X r D' L e w':=by
 obtain ⟨A',c',rfl,hd,hf,hn⟩:=hp
 obtain ⟨⟨n1,n2,n3,n4⟩,n5⟩:=h.ne
 have hx:Ext w0 w':=Dfr.grown h.ext h.disk hf
 have hq:w'.heap[X.q]? =w.heap[X.q]? :=hf.other X.q h.blk.lt n1 n2 n3 n4
 refine ⟨{ X with A:=A',c:=c' },rfl,⟨hx,hd,hq.trans h.blk, ?_,h.base⟩,⟨hf.os,hf.tape,hf.output,hf.size,fun k hk hnk=> ?_⟩,⟨rfl,rfl,rfl,rfl,fun k hk=> ?_⟩⟩
 ·refine h.tail.keep1 fun k hk=> ?_
  obtain ⟨m1,m2,m3,m4,m5⟩:=n5 k hk
  exact hf.other k (own_block h.tail k hk).2.1 m2 m3 m4 m5
 ·unfold Bk.has at hnk
  refine hf.other k hk (fun e=>hnk (.inr (.inl e))) (fun e=>hnk (.inr (.inr (.inl e)))) (fun e=>hnk (.inr (.inr (.inr (.inl e))))) (fun a ha e=>hnk (.inr (.inr (.inr (.inr (.inl ⟨a,ha,e⟩))))))
 ·unfold Bk.has at hk ⊢
  rcases hk with hk | hk | hk | hk | ⟨a,ha,hk⟩ | hk
  ·exact .inl (.inl hk)
  ·exact .inl (.inr (.inl hk))
  ·exact .inl (.inr (.inr (.inl hk)))
  ·exact .inl (.inr (.inr (.inr (.inl hk))))
  ·rcases hn a ha with ⟨d,hd2,e2⟩ | h5
   ·exact .inl (.inr (.inr (.inr (.inr (.inl ⟨d,hd2,e2.trans hk⟩)))))
   ·exact .inr (by omega)
  ·exact .inl (.inr (.inr (.inr (.inr (.inr hk)))))
def partB (L:Lg) (a:Nat) (p:List UInt8):List UInt8:=sealB 2 (ptNs (a / 480) L.hd.ep p.length) p
theorem gwrite_any (h:LgAt w0 w X D L) (ok:L.Ok D) (b:Bd D) (a:Nat) (ha:a < 18446744073709551616) (T:Option Addr) (ct nt:Nat) (p:List UInt8) (hr:Rd w T p) (hn:p.length=nt) (hl:nt≤480) (hT:Tab w0):
  Calls Tryz.prog 89 #[.pointer (some ⟨X.q,0,none⟩), .int .u64 (a:Int), .slice T nt ct] w (LPost w0 w X (.int .i64 (wE D (secOf L a) (partB L a p))) (wD D (secOf L a) (partB L a p)) L):=by
 have HL:=hide h
 have HB:=hide b
 have HR:=hide hr
 have HN:=hide hn
 have HT:=hide hT
 obtain ⟨q,HQ⟩:∃q,Hid (partB L a p=q):=⟨_,hide rfl⟩
 obtain ⟨s,HS⟩:∃s:Int,Hid ((secOf L a:Int)=s):=⟨_,hide rfl⟩
 have KS:=hide (fun (W:World) (hW:Ext w W)=>sector_any (h.ext_ hW) ok b.ok a ha)
 have hep:=ok.hd.ep
 have hnum:a / 480 < 18446744073709551616:=by omega
 have KW:Hid (∀(W:World),Ext w W→Calls Tryz.prog 118 #[.pointer (some ⟨X.g,0,none⟩), .int .i64 s, .agg #[.int .u64 ((a / 480:Nat):Int), .int .u64 (L.hd.ep:Int), .int .u64 0, .slice T nt ct]] W (DPost w0.heap.size X.g X.gd X.gn W X.A (.int .i64 (wE D s q)) (wD D s q))):=hide (fun W hW=>by
  have k:=writePart_any (HL.out.disk.ext hW) HB.out (Nat.le_trans HL.out.ext.size hW.size) s (a / 480) L.hd.ep nt 0 hnum hep T ct p (HR.out.ext hW) HN.out hl (HT.out.ext (HL.out.ext.trans hW))
  rw [show sealB 2 (ptNs (a / 480) L.hd.ep nt) p=q by rw [← HQ.out,← HN.out];rfl] at k
  exact k)
 rw [HQ.out,HS.out]
 rw [HS.out] at KS
 have c0:=h.blk.cell (i:=0) rfl
 have c2:=h.blk.cell (i:=2) rfl
 have hda:((a / 480:Nat):Int)=(a:Int) / 480:=by omega
 rw [hda] at KW
 have hwq:IntKind.u64.wrap ((a:Int) / 480)=(a:Int) / 480:=by rw [IntKind.wrap_u64];omega
 clear hr hn hT b ok h hda
 go_enter Tryz.func89,Tryz.ntmps89
 go_wp2
 go_region_law (first
  | (go_simp;go_at_call 119;(with_reducible refine (KS.out _ (Ext.drew _)).mono ?_);rintro e w2 ⟨rfl,hx2⟩;have HX2:Hid (Ext w w2):=hide ((Ext.drew _).trans hx2);have c0b:=(HL.out.blk.ext HX2.out).cell (i:=0) rfl;have c2b:=(HL.out.blk.ext HX2.out).cell (i:=2) rfl;clear hx2)
  | (go_simp;go_at_call 118;(with_reducible refine (KW.out w2 HX2.out).mono ?_);rintro e w3 hp3;have HP3:=hide (LPost.pre HX2.out (LPost.of_disk (HL.out.ext_ HX2.out) hp3));obtain ⟨A3,c3,rfl,-⟩:=hp3))
 all_goals
  go_wp2
  go_ret
  exact HP3.out
end
def szOf (l:List UInt8):Nat:=if (l.getD 0 0).toNat * 256 + (l.getD 1 0).toNat > 1200 then 0 else (l.getD 0 0).toNat * 256 + (l.getD 1 0).toNat
def whSz (l:List UInt8):Nat:=if l.length < 2 then 0 else if szOf l=0∨szOf l > l.length - 2 then 0 else 2 + szOf l
theorem szOf_le (l:List UInt8):szOf l≤1200:=by unfold szOf;split <;> omega
theorem whSz_le (l:List UInt8):whSz l≤l.length:=by
 unfold whSz
 split
 ·omega
 ·split <;> omega
theorem or_i64 (x y:UInt8):bits .or .i64 ((x.toNat:Int) * 256) (y.toNat:Int)=((x.toNat * 256 + y.toNat:Nat):Int):=by
 have hx2:=x.toNat_lt
 have hy2:=y.toNat_lt
 have e1:(x.toNat:Int) * 256=((x.toNat * 256:Nat):Int):=by omega
 rw [e1]
 show IntKind.i64.wrap ((BitVec.ofInt 64 ((x.toNat * 256:Nat):Int) ||| BitVec.ofInt 64 ((y.toNat:Nat):Int)).toNat:Int)=_
 rw [BitVec.toNat_or,BitVec.ofInt_natCast,BitVec.ofInt_natCast,BitVec.toNat_ofNat,BitVec.toNat_ofNat,
  Nat.mod_eq_of_lt (show x.toNat * 256 < 2 ^ 64 by omega),Nat.mod_eq_of_lt (show y.toNat < 2 ^ 64 by omega),or_low _ _ (by omega),IntKind.wrap_i64]
 omega
theorem sizeOf_any (A:Option Addr) (l:List UInt8) (n c:Nat) (w:World) (hr:Rd w A l) (hn:l.length=n) (h2:2≤n) (hl:n≤140737488355328):Calls Tryz.prog 117 #[.slice A n c] w (fun e w' =>e= .returned (.int .i64 (szOf l:Int))∧Ext w w'):=by
 obtain ⟨b,off,x,rfl,hx,hc0⟩:=hr.at (k:=0) (by omega)
 obtain ⟨b',off',y,he,hy,hc1⟩:=hr.at (k:=1) (by omega)
 injection he with he
 injection he with he1 he2
 subst he1 he2
 have hx2:=x.toNat_lt
 have hy2:=y.toNat_lt
 have HS:Hid (szOf l=if x.toNat * 256 + y.toNat > 1200 then 0 else x.toNat * 256 + y.toNat):=hide (by
  unfold szOf
  rw [show l.getD 0 0=x by rw [List.getD_eq_getElem?_getD,hx];rfl,show l.getD 1 0=y by rw [List.getD_eq_getElem?_getD,hy];rfl])
 have hor:=or_i64 x y
 obtain ⟨z,HZ⟩:∃z:Nat,Hid (x.toNat * 256 + y.toNat=z):=⟨_,hide rfl⟩
 rw [HZ.out] at hor HS
 have hi0:(0:Int) < (n:Int):=by omega
 have hi1:(1:Int) < (n:Int):=by omega
 rw [Nat.add_zero] at hc0
 clear hr hx hy
 by_cases hz:z > 1200
 ·have HS2:Hid (szOf l=0):=hide (by rw [HS.out,if_pos hz])
  have hzi:(1200:Int) < (z:Int):=by omega
  rw [HS2.out]
  clear hz
  go_enter Tryz.func117,Tryz.ntmps117
  go_wp2
  go_region
  go_wp2
  go_ret
  exact ⟨rfl,Ext.drew _⟩
 ·have HS2:Hid (szOf l=z):=hide (by rw [HS.out,if_neg hz])
  have hzi:¬(1200:Int) < (z:Int):=by omega
  rw [HS2.out]
  clear hz
  go_enter Tryz.func117,Tryz.ntmps117
  go_wp2
  go_region
  go_wp2
  go_ret
  exact ⟨rfl,Ext.drew _⟩
theorem wholeSize_any (A:Option Addr) (l:List UInt8) (n c:Nat) (w:World) (hr:Rd w A l) (hn:l.length=n) (hl:n≤140737488355328):Calls Tryz.prog 86 #[.slice A n c] w (fun e w' =>e= .returned (.int .i64 (whSz l:Int))∧Ext w w'):=by
 by_cases h2:n < 2
 ·have HS:Hid (whSz l=0):=hide (by unfold whSz;rw [hn,if_pos h2])
  have hni:(n:Int) < 2:=by omega
  rw [HS.out]
  clear h2 hr hn
  go_enter Tryz.func86,Tryz.ntmps86
  go_wp2
  go_ret
  exact ⟨rfl,Ext.refl _⟩
 ·have KS:=hide (sizeOf_any A l n c w hr hn (by omega) hl)
  have hni:¬(n:Int) < 2:=by omega
  obtain ⟨z,HZ⟩:∃z:Nat,Hid (szOf l=z):=⟨_,hide rfl⟩
  have hz12:z≤1200:=by rw [← HZ.out];exact szOf_le l
  have HS:Hid (whSz l=if z=0∨z > n - 2 then 0 else 2 + z):=hide (by unfold whSz;rw [hn,if_neg h2,HZ.out])
  rw [HZ.out] at KS
  by_cases h0:z=0
  ·have HS2:Hid (whSz l=0):=hide (by rw [HS.out,if_pos (.inl h0)])
   rw [HS2.out]
   subst h0
   clear h2 hr hn
   go_enter Tryz.func86,Tryz.ntmps86
   go_wp2_with (go_at_call 117;(with_reducible refine KS.out.mono ?_);rintro e w2 ⟨rfl,hx2⟩;have HX2:=hide hx2;clear hx2)
   go_ret
   exact ⟨rfl,HX2.out⟩
  ·have h0i:((z:Int)==0)=false:=by simpa using h0
   by_cases hg:z > n - 2
   ·have HS2:Hid (whSz l=0):=hide (by rw [HS.out,if_pos (.inr hg)])
    have hgi:(n:Int) - 2 < (z:Int):=by omega
    rw [HS2.out]
    clear hr hn hg h0 h2
    go_enter Tryz.func86,Tryz.ntmps86
    go_wp2_with (go_at_call 117;(with_reducible refine KS.out.mono ?_);rintro e w2 ⟨rfl,hx2⟩;have HX2:=hide hx2;clear hx2)
    go_ret
    exact ⟨rfl,HX2.out⟩
   ·have HS2:Hid (whSz l=2 + z):=hide (by rw [HS.out,if_neg (by omega)])
    have hgi:¬(n:Int) - 2 < (z:Int):=by omega
    have hzi:(z:Int)≤1200:=by omega
    have hzw:(2:Int) + (z:Int)=((2 + z:Nat):Int):=by omega
    rw [HS2.out]
    have HZW:=hide hzw
    clear hr hn hg h0 h2 hzw
    go_enter Tryz.func86,Tryz.ntmps86
    go_wp2_with (go_at_call 117;(with_reducible refine KS.out.mono ?_);rintro e w2 ⟨rfl,hx2⟩;have HX2:=hide hx2;clear hx2)
    go_ret
    exact ⟨by rw [← HZW.out];rfl,HX2.out⟩
def thP (D:Dk) (L:Lg):Nat→Nat→Int→List UInt8
 | 0,_,_=> []
 | f + 1,a,ep=>if ptThere D L a=true∧¬(ptAt D (secOf L a)).ep < ep then
   (if (ptAt D (secOf L a)).by_.length < 480 then (ptAt D (secOf L a)).by_ else (ptAt D (secOf L a)).by_ ++ thP D L f (a + 480) (ptAt D (secOf L a)).ep) else []
theorem ptOf_len (b:List UInt8):(ptOf b).by_.length≤480:=by unfold ptOf ptLen;simp only [List.length_take];omega
theorem ptAt_len (D:Dk) (i:Int):(ptAt D i).by_.length≤480:=by
 unfold ptAt
 split
 ·exact ptOf_len _
 ·exact Nat.zero_le _
theorem thP_len (D:Dk) (L:Lg):∀(f a:Nat) (ep:Int),(thP D L f a ep).length≤480 * f
 | 0,_,_=>Nat.zero_le _
 | f + 1,a,ep=>by
  have h:=thP_len D L f (a + 480) (ptAt D (secOf L a)).ep
  have h2:=ptAt_len D (secOf L a)
  unfold thP
  split
  ·split
   ·omega
   ·rw [List.length_append];omega
  ·exact Nat.zero_le _
theorem there_ring {D:Dk} {L:Lg} (hcn:0 < L.hd.cn) (a:Nat) (h:ptThere D L a=true):ptThere D L (a + 480 * L.hd.cn)=false:=by
 have hd:(a + 480 * L.hd.cn) / 480=a / 480 + L.hd.cn:=by omega
 have hs:secOf L (a + 480 * L.hd.cn)=secOf L a:=by unfold secOf;rw [hd,Nat.add_mod_right]
 unfold ptThere at *
 rw [hs,hd]
 simp only [Bool.and_eq_true,decide_eq_true_eq] at h
 rw [h.2]
 simp
 intro _
 omega
section
variable {w0 w:World} {X:Bk} {D:Dk} {L:Lg}
def ThPost (w:World) (l:List UInt8) (n:Int) (e:Ending) (w':World):Prop:=∃v,e= .returned (.tuple #[v, .int .i64 n])∧Own w' w.heap.size v l∧Ext w w'
theorem there_any (h:LgAt w0 w X D L) (ok:L.Ok D) (b:Bd D) (a:Nat) (ha:a < 1152921504606846976) (hT:Tab w0):Calls Tryz.prog 85 #[.pointer (some ⟨X.q,0,none⟩), .int .u64 (a:Int)] w
  (ThPost w (if D.off=true then [] else thP D L (L.hd.cn + 1) a (L.hd.old:Int)) (if D.off=true then 8 else 0)):=by
 have HL:=hide h
 have HB:=hide b
 have HT:=hide hT
 have HOK:=hide ok
 have hcn:=ok.cn
 have HSL:Hid (∀x,gE D (secOf L x)=if D.off=true then 8 else 0):=hide (fun x=>by
  have h1:=secOf_lt ok x
  unfold gE
  rw [if_neg (by omega)])
 have KP:Hid (∀(W:World) (x:Nat),Ext w W→x < 1200000000000000000→Calls Tryz.prog 116 #[.pointer (some ⟨X.q,0,none⟩), .int .u64 (x:Int)] W (PartPost D L x W)):=hide (fun W x hW hx=>part_any (HL.out.ext_ hW) HOK.out HB.out x (by omega) HT.out)
 have c3:=h.blk.cell (i:=3) rfl
 have HA:=hide ha
 obtain ⟨o0,HO0⟩:∃o0,Hid ((L.hd.old:Int)=o0):=⟨_,hide rfl⟩
 rw [HO0.out] at c3 ⊢
 have HX0:Hid (Ext w w):=hide (Ext.refl w)
 have HV0:Hid (Own w w.heap.size (.slice none 0 0) []):=hide (Own.nil _ _)
 obtain ⟨cn,HCN⟩:∃cn,Hid (L.hd.cn=cn):=⟨_,hide rfl⟩
 rw [HCN.out] at hcn ⊢
 have hcl:cn≤4096:=hcn.2
 obtain ⟨tl,HTL⟩:∃tl,Hid ((if D.off=true then [] else thP D L (cn + 1) a o0)=tl):=⟨_,hide rfl⟩
 obtain ⟨te,HTE⟩:∃te,Hid ((if D.off=true then (8:Int) else 0)=te):=⟨_,hide rfl⟩
 rw [HTL.out,HTE.out]
 clear h ok b hT ha hcn
 go_enter Tryz.func85,Tryz.ntmps85
 go_wp2
 clear c3
 go_loopw [1,6,7] (fun x v y wr=>∃(k:Nat) (acc:List UInt8) (ep:Int),k≤cn∧x= .int .u64 ((a + 480 * k:Nat):Int)∧y= .int .u64 ep∧Hid (Own wr w.heap.size v acc)∧Hid (Ext w wr)∧Hid (acc.length=480 * k)∧
  Hid (acc ++ thP D L (cn + 1 - k) (a + 480 * k) ep=thP D L (cn + 1) a o0)∧Hid (0 < k→D.off=false∧ptThere D L a=true)) (fun x _ _ _=>a + 480 * (cn + 1) - (intOf x).toNat)
 case atStart=>exact ⟨0, [],o0,Nat.zero_le _,rfl,rfl,HV0,HX0,hide rfl,hide rfl,hide (fun h=>absurd h (by decide))⟩
 case round=>
  obtain ⟨k,acc,ep,hk,rfl,rfl,HV,HX,HAL,HTH,HK⟩:=hrel
  obtain ⟨x,HXX⟩:∃x,Hid (a + 480 * k=x):=⟨_,hide rfl⟩
  rw [HXX.out] at HTH ⊢
  have HXL:Hid (x < 1200000000000000000):=hide (by have:=HA.out;have:=HXX.out;omega)
  have HRING:Hid (k=cn→ptThere D L x=false):=hide (fun e=>by
   have h0:0 < cn:=by have:=HOK.out.cn.1;have:=HCN.out;omega
   have h1:=(HK.out (by omega)).2
   have h2:=there_ring (D:=D) (L:=L) (by rw [HCN.out];exact h0) a h1
   rw [HCN.out,← e,HXX.out] at h2
   exact h2)
  obtain ⟨P0,HP0⟩:∃P0,Hid (ptAt D (secOf L x)=P0):=⟨_,hide rfl⟩
  obtain ⟨q,HQ⟩:∃q,Hid (ptThere D L x=q):=⟨_,hide rfl⟩
  have HGS:Hid (gE D (secOf L x)=te):=hide (by rw [HSL.out,HTE.out])
  have HP48:Hid (P0.by_.length≤480):=hide (by rw [← HP0.out];exact ptAt_len _ _)
  have HPE:Hid (0≤P0.ep∧P0.ep < 18446744073709551616):=hide (by rw [← HP0.out];exact ptAt_ep _ _)
  rw [HQ.out] at HRING
  have HUN:Hid (thP D L (cn + 1 - k) x ep=if q=true∧¬P0.ep < ep then (if P0.by_.length < 480 then P0.by_ else P0.by_ ++ thP D L (cn - k) (x + 480) P0.ep) else []):=hide (by
   rw [show cn + 1 - k=(cn - k) + 1 by omega]
   rw [thP,HP0.out,HQ.out])
  have KPX:=hide (KP.out wr x HX.out HXL.out)
  unfold PartPost at KPX
  rw [HP0.out,HQ.out,HGS.out] at KPX
  go_upto_region 5 with (go_at_call 116;(with_reducible refine KPX.out.mono ?_);rintro e w2 ⟨P,pc,rfl,hpc,hrp,hx2⟩;have HX2:=hide (HX.out.trans hx2);have HRP:=hide hrp;have HV2:=hide (HV.out.ext hx2);clear hpc hrp hx2)
  have HBX:Hid (Rw (w2.alloc (.cells #[.int .u64 P0.num, .int .u64 P0.ep, .int .u64 P0.sz, .slice P P0.by_.length pc] 123)) w2.heap.size 123 [.int .u64 P0.num, .int .u64 P0.ep, .int .u64 P0.sz, .slice P P0.by_.length pc]):=hide (Rw.new w2 123 [.int .u64 P0.num, .int .u64 P0.ep, .int .u64 P0.sz, .slice P P0.by_.length pc])
  have HX3:=hide (HX2.out.trans (Ext.alloc w2 (.cells #[.int .u64 P0.num, .int .u64 P0.ep, .int .u64 P0.sz, .slice P P0.by_.length pc] 123)))
  have HRP3:=hide (HRP.out.ext (Ext.alloc w2 (.cells #[.int .u64 P0.num, .int .u64 P0.ep, .int .u64 P0.sz, .slice P P0.by_.length pc] 123)))
  have HV3:=hide (HV2.out.ext (Ext.alloc w2 (.cells #[.int .u64 P0.num, .int .u64 P0.ep, .int .u64 P0.sz, .slice P P0.by_.length pc] 123)))
  obtain ⟨bx,HBE⟩:∃bx,Hid (w2.heap.size=bx):=⟨_,hide rfl⟩
  rw [HBE.out] at HBX ⊢
  generalize w2.alloc (.cells #[.int .u64 P0.num, .int .u64 P0.ep, .int .u64 P0.sz, .slice P P0.by_.length pc] 123)=w3 at *
  clear HX2 HRP HV2 HV HX HBE
  cases hd:D.off with
  | true=>
   rw [hd,if_pos rfl] at HTE HTL
   have hte:te=8:=HTE.out.symm
   have htl:tl= []:=HTL.out.symm
   subst hte htl
   go_wp2
   go_ret2
   exact ⟨_,rfl,Own.nil _ _,HX3.out⟩
  | false=>
   rw [hd,if_neg (by decide)] at HTE HTL
   have hte:te=0:=HTE.out.symm
   subst hte
   have HD2:=hide hd
   clear hd
   have k1:=HBX.out.cell (i:=1) rfl
   have k3:=HBX.out.cell (i:=3) rfl
   cases q with
   | false=>
    have HE0:Hid (acc=tl):=hide (by
     have h1:=HTH.out
     rw [HUN.out,if_neg (by simp),List.append_nil,HTL.out] at h1
     exact h1)
    go_wp2
    go_ret2
    exact ⟨_,rfl,by rw [← HE0.out];exact HV3.out,HX3.out⟩
   | true=>
    by_cases hlt:P0.ep < ep
    ·have HE0:Hid (acc=tl):=hide (by
      have h1:=HTH.out
      rw [HUN.out,if_neg (by simp [hlt]),List.append_nil,HTL.out] at h1
      exact h1)
     go_wp2
     go_ret2
     exact ⟨_,rfl,by rw [← HE0.out];exact HV3.out,HX3.out⟩
    ·have hkc:k < cn:=by
      rcases Nat.lt_or_ge k cn with h | h
      ·exact h
      ·have:=HRING.out (by omega);cases this
     by_cases h48:P0.by_.length < 480
     ·have HE0:Hid (acc ++ P0.by_=tl):=hide (by
       have h1:=HTH.out
       rw [HUN.out,if_pos (by refine ⟨rfl, ?_⟩;omega),if_pos h48,HTL.out] at h1
       exact h1)
      have h48i:(P0.by_.length:Int) < 480:=by omega
      clear h48
      go_wp2_with ((with_reducible show wpList _ _ _ (⟨some 40,_,_,_,_,_⟩::_) _ _);refine wpList_catG rfl (.tmp 37) (.tmp 39) rfl w.heap.size _ acc P0.by_ P P0.by_.length pc rfl rfl rfl HV3.out HRP3.out HX3.out.size (by have:=HAL.out;have:=HP48.out;omega) ?_;intro v4 w4 ho4 hb4 hs4;have HV4:=hide ho4;have HX4:Hid (Ext w w4):=hide (Below.trans HX3.out hb4);have HB4:=hide (hs4 bx _ _ (by decide) HBX.out);have k1b:=HB4.out.cell (i:=1) rfl;have k3b:=HB4.out.cell (i:=3) rfl;clear ho4 hb4 hs4)
      go_ret2
      exact ⟨_,rfl,by rw [← HE0.out];exact HV4.out,HX4.out⟩
     ·have HE0:Hid ((acc ++ P0.by_) ++ thP D L (cn + 1 - (k + 1)) (a + 480 * (k + 1)) P0.ep=thP D L (cn + 1) a o0):=hide (by
       have h1:=HTH.out
       rw [HUN.out,if_pos (by refine ⟨rfl, ?_⟩;omega),if_neg h48,← List.append_assoc] at h1
       rw [show cn + 1 - (k + 1)=cn - k by omega,show a + 480 * (k + 1)=x + 480 by have:=HXX.out;omega]
       exact h1)
      have h48e:P0.by_.length=480:=by have:=HP48.out;omega
      have HAL2:Hid ((acc ++ P0.by_).length=480 * (k + 1)):=hide (by rw [List.length_append,HAL.out,h48e];omega)
      have h48i:¬(P0.by_.length:Int) < 480:=by omega
      have hxw:IntKind.u64.wrap ((x:Int) + 480)=((a + 480 * (k + 1):Nat):Int):=by rw [IntKind.wrap_u64];have:=HXL.out;have:=HXX.out;omega
      have HTH1:Hid (0 < k + 1→D.off=false∧ptThere D L a=true):=hide (fun _=>⟨HD2.out,by
       rcases Nat.eq_zero_or_pos k with h | h
       ·have h1:=HQ.out
        have h2:=HXX.out
        rw [h] at h2
        rw [← h2] at h1
        exact h1
       ·exact (HK.out h).2⟩)
      have HMS:Hid (a + 480 * (cn + 1) - (a + 480 * (k + 1)) < a + 480 * (cn + 1) - x):=hide (by have:=HXX.out;omega)
      clear h48 h48e
      go_wp2_with ((with_reducible show wpList _ _ _ (⟨some 40,_,_,_,_,_⟩::_) _ _);refine wpList_catG rfl (.tmp 37) (.tmp 39) rfl w.heap.size _ acc P0.by_ P P0.by_.length pc rfl rfl rfl HV3.out HRP3.out HX3.out.size (by have:=HAL.out;have:=HP48.out;omega) ?_;intro v4 w4 ho4 hb4 hs4;have HV4:=hide ho4;have HX4:Hid (Ext w w4):=hide (Below.trans HX3.out hb4);have HB4:=hide (hs4 bx _ _ (by decide) HBX.out);have k1b:=HB4.out.cell (i:=1) rfl;have k3b:=HB4.out.cell (i:=3) rfl;clear ho4 hb4 hs4)
      refine ⟨⟨k + 1,acc ++ P0.by_,P0.ep,by omega,congrArg (Value.int .u64) (by omega),rfl,HV4,HX4,HAL2,HE0,HTH1⟩, ?_⟩
      show a + 480 * (cn + 1) - ((a:Int) + 480 * ((k:Int) + 1)).toNat < a + 480 * (cn + 1) - (x:Int).toNat
      have:=HMS.out
      omega
end
end Go.Proofs.YthmdmgnhfhpcaaaGreatDoor
