/-
  What the card wants, part 14: SuF, SuG, SuH, SuI, PlZ, SuJ, SuK, SuL, SuM, SuP, SuQ, PpA, PpC, SuR, SuS, SuT, SuU.
-/
import Derived.Test.YthmdmgnhfhpcaaaGreatDoorPkCardSvE5
import Derived.Test.YthmdmgnhfhpcaaaGreatDoorPkCardSvE8
import Derived.Test.YthmdmgnhfhpcaaaGreatDoorPkCardSvE11
import Derived.Test.YthmdmgnhfhpcaaaGreatDoorPkCardSvE12
import Derived.Test.YthmdmgnhfhpcaaaGreatDoorPkCardSvE13
set_option linter.unusedVariables false
set_option linter.unusedSimpArgs false
set_option maxRecDepth 20000
set_option maxHeartbeats 12800000
namespace Go.Proofs.YthmdmgnhfhpcaaaGreatDoor
open Go.RowKit
def FsP (w:World) (n c f:Nat) (e:Ending) (w':World):Prop:=∃Z s S,e= .returned (.tuple #[.pointer (some ⟨Z.X.g,0,none⟩), .pointer (some ⟨s,0,none⟩)])∧StoAt w w' Z s S (Sr0 c)∧NewS n c f S
section
variable {w0 w w':World} {g gd gn cA n c f k:Nat} {A:Option Addr}
theorem sopen_new (hx0:Ext w0 w) (h:DiskAt w0.heap.size w g gd gn A cA (dk1k n 0 c k)) (hT:Tab w0) (hsort:SortC) (h4:16≤c) (h5:c≤4000) (hn:1 + c < n) (hm:n≤4096) (hk:k≤n + 6) (hf:1≤f∧f≤64):
  Calls Tryz.prog 8 #[.pointer (some ⟨g,0,none⟩), .int .i64 (c:Int), .int .i64 (f:Int)] w (fun e w' =>∃s,e= .returned (.tuple #[.pointer (some ⟨s,0,none⟩), .int .i64 0])∧∃Z S,Z.X.g=g∧StoAt w0 w' Z s S (Sr0 c)∧NewS n c f S):=by
 have hl:(dk1k n 0 c k).dur.length=n:=dk1k_len
 obtain ⟨e1,e2,e3⟩:=open_newK (n:=n) (a:=0) (c:=c) (k:=k) (by omega) (by omega) (by omega)
 obtain ⟨-,e5⟩:=head_newK (n:=n) (a:=0) (c:=c) (k:=k) (by omega) (by omega)
 rw [show ((0:Nat):Int)=0 from rfl] at e1 e2 e3 e5
 refine sopen_ok hx0 h (dk1k_bd (by omega) hm (by omega)) (by show (0:Nat) < _;decide) (by show k < 800000;omega) hT c f (by unfold stFitsE;rw [hl,if_neg (by omega)]) (by rw [hl];exact hn) hf (by rw [e5];show 480 < 576460752303423488;decide) (by rw [e5];show 480 < 1152921504606846976;decide) e1 (by rw [e2,dk2k_len,hl]) (fun s w' =>∃Z S,Z.X.g=g∧StoAt w0 w' Z s S (Sr0 c)∧NewS n c f S) fun W Z s hW hg=> ?_
 rw [e2,e3,hl] at hW
 have kk:=srestore_newZ (g:=g) hW hg (NewS.new (by omega) h5 hn hm hk hf) rfl hT hsort (by show k + 3≤n + 10;omega) hm
 exact kk.mono fun e w' hh=>hh
theorem sfresh_any (np:Nat) (h4:16≤c) (h5:c≤4000) (h1:1≤np) (hm:1 + c + np≤4096) (hf:1≤f∧f≤64) (hT:Tab w) (hsort:SortC):Calls Tryz.prog 9 #[.int .i64 (np:Int), .int .i64 (c:Int), .int .i64 (f:Int)] w (FsP w (1 + c + np) c f):=by
 have KN:=hide (new_any (1 + c + np) (by omega) (by omega) w)
 have KF:Hid (∀w1 g gd gn,Ext w w1→DiskAt w.heap.size w1 g gd gn none 0 (D0 (1 + c + np))→Calls Tryz.prog 7 #[.pointer (some ⟨g,0,none⟩), .int .i64 (c:Int)] w1 (DPost w.heap.size g gd gn w1 none (.int .i64 0) (dk1k (1 + c + np) 0 c (np + 5)))):=hide (fun w1 g gd gn hx hd=>by
  obtain ⟨a1,a2,a3,a4⟩:=sformat_new (n:=1 + c + np) (c:=c) (by omega) (by omega)
  have hl:(D0 (1 + c + np)).dur.length=1 + c + np:=D0_len _
  have k:=sformat_ok hx hd (D0_bd (by omega) (by omega)) (by show (0:Nat) < _;decide) (by show (0:Nat) < _;decide) hT c (by unfold stFitsE;rw [hl,if_neg (by omega)]) (by rw [hl];omega) a1 (by rw [hl];exact a2)
  rw [a3,a4,show 2 + (1 + c + np - (1 + c)) + 1 + 2=np + 5 by omega] at k
  exact k)
 have KO:Hid (∀w1 g gd gn A cc,Ext w w1→DiskAt w.heap.size w1 g gd gn A cc (dk1k (1 + c + np) 0 c (np + 5))→Calls Tryz.prog 8 #[.pointer (some ⟨g,0,none⟩), .int .i64 (c:Int), .int .i64 (f:Int)] w1 (fun e w' =>∃s,e= .returned (.tuple #[.pointer (some ⟨s,0,none⟩), .int .i64 0])∧∃Z S,Z.X.g=g∧StoAt w w' Z s S (Sr0 c)∧NewS (1 + c + np) c f S)):=hide (fun w1 g gd gn A cc hx hd=>sopen_new hx hd hT hsort h4 h5 (by omega) hm (by omega) hf)
 have hcw:IntKind.i64.wrap (1 + (c:Int))=((1 + c:Nat):Int):=by rw [IntKind.wrap_i64];omega
 have hcw2:IntKind.i64.wrap (((1 + c:Nat):Int) + (np:Int))=((1 + c + np:Nat):Int):=by rw [IntKind.wrap_i64];omega
 obtain ⟨m1,HM1⟩:∃m:Int,Hid (((1 + c:Nat):Int)=m):=⟨_,hide rfl⟩
 obtain ⟨m,HM⟩:∃m:Int,Hid (((1 + c + np:Nat):Int)=m):=⟨_,hide rfl⟩
 rw [HM.out] at KN hcw2
 rw [HM1.out] at hcw hcw2
 unfold FsP
 obtain ⟨N,HN⟩:∃N,Hid (1 + c + np=N):=⟨_,hide rfl⟩
 rw [HN.out] at KF KO KN ⊢
 clear h4 h5 hT h1 hm hf hsort
 go_enter Tryz.func9,Tryz.ntmps9
 go_wp2_with (first
  | (go_at_call 6;(with_reducible refine KN.out.mono ?_);rintro e w1 ⟨g,gd,gn,rfl,hd1,hx1⟩;have HD1:=hide hd1;have HX1:=hide hx1;clear hd1 hx1)
  | (go_at_call 7;(with_reducible refine (KF.out w1 g gd gn HX1.out HD1.out).mono ?_);rintro e w2 ⟨A2,c2,rfl,hd2,hf2,hn2⟩;have HD2:=hide hd2;have HX2:Hid (Ext w w2):=hide (Dfr.grown HX1.out HD1.out hf2);clear hd2 hf2 hn2)
  | (go_at_call 8;(with_reducible refine (KO.out w2 g gd gn A2 c2 HX2.out HD2.out).mono ?_);rintro e w3 ⟨s3,rfl,Z3,S3,hg3,h3,hn3⟩;have HG3:=hide hg3;have H3:=hide h3;have HN3:=hide hn3;clear hg3 h3 hn3))
 go_ret2
 exact ⟨Z3,s3,S3,by rw [HG3.out];rfl,H3.out,HN3.out⟩
end
section
variable {w0 w w':World} {Z:Pk} {g gd gn cA s c:Nat} {A:Option Addr} {D:Dk} {S S1:St} {R:Sr}
theorem sopen_bad (h:DiskAt w0.heap.size w g gd gn A cA D) (hd:D.dur.length≤4096) (c f:Int) (hf:stFitsE D c≠0):Calls Tryz.prog 8 #[.pointer (some ⟨g,0,none⟩), .int .i64 c, .int .i64 f] w (Same w (.tuple #[.pointer none, .int .i64 (stFitsE D c)])):=by
 have KF:=hide (sfits_any h hd c)
 obtain ⟨e,HE⟩:∃e,Hid (stFitsE D c=e):=⟨_,hide rfl⟩
 rw [HE.out] at KF hf ⊢
 have hee:(e !=0)=true:=by simpa using hf
 clear h hd hf
 go_enter Tryz.func8,Tryz.ntmps8
 go_wp2_with (go_at_call 24;(with_reducible refine KF.out.mono ?_);rintro e2 w2 ⟨rfl,hw2⟩;subst hw2)
 go_ret2
 exact ⟨rfl,rfl⟩
theorem sopen_frames (h:DiskAt w0.heap.size w g gd gn A cA D) (hd:D.dur.length≤4096) (c f:Int) (hf:stFitsE D c=0) (hfr:f < 1∨64 < f):Calls Tryz.prog 8 #[.pointer (some ⟨g,0,none⟩), .int .i64 c, .int .i64 f] w (Same w (.tuple #[.pointer none, .int .i64 1])):=by
 have KF:=hide (sfits_any h hd c)
 rw [hf] at KF
 clear h hd hf
 by_cases h1:f < 1
 ·clear hfr
  go_enter Tryz.func8,Tryz.ntmps8
  go_wp2_with (go_at_call 24;(with_reducible refine KF.out.mono ?_);rintro e2 w2 ⟨rfl,hw2⟩;subst hw2)
  go_ret2
  exact ⟨rfl,rfl⟩
 ·have h2:64 < f:=by omega
  clear hfr
  go_enter Tryz.func8,Tryz.ntmps8
  go_wp2_with (go_at_call 24;(with_reducible refine KF.out.mono ?_);rintro e2 w2 ⟨rfl,hw2⟩;subst hw2)
  go_ret2
  exact ⟨rfl,rfl⟩
theorem sRead_not (h:StoAt w0 w Z s S R) (ft:S.Fit c) (hc:c≤400000) (hT:Tab w0) (hr:readyE S.D R=0) (x er:Int) (hp:pageR S x=(er,S1)) (he0:er≠0) (he8:er≠8):Calls Tryz.prog 11 #[.pointer (some ⟨s,0,none⟩), .int .i64 x] w (SoPost w0 w Z s S.P (.tuple #[.slice none 0 0, .int .i64 er]) S1 R):=by
 have KR:=hide (sready_any h)
 rw [hr,seenR_0] at KR
 have H:=hide h
 have KP:Hid (∀W,StoAt w0 W Z s S R→Calls Tryz.prog 35 #[.pointer (some ⟨Z.q,0,none⟩), .int .i64 x] W (SoPost w0 W Z s S.P (.tuple #[.slice none 0 0, .int .u64 0, .int .i64 er]) S1 R)):=hide (fun W hW=>(pread_not hW.pool ft hc hT x er S1 hp he0).mono fun e w' hh=>by
  obtain ⟨Z',he,hl,hpf,hn2⟩:=hh
  exact ⟨Z',he,hW.later hl hpf hn2,Sfr.of hpf,hn2⟩)
 have KS:=hide (fun W=>sseen_same (s:=s) er he8 W)
 clear h ft hc hT hr hp
 go_enter Tryz.func11,Tryz.ntmps11
 go_wp2_with (first
  | (go_at_call 32;(with_reducible refine KR.out.mono ?_);rintro e w2 ⟨rfl,h2,hf2⟩;have H2:=hide h2;have HF2:=hide hf2;have c2:=h2.blk.cell (i:=2) rfl;clear h2 hf2)
  | (go_at_call 35;(with_reducible refine (KP.out w2 H2.out).mono ?_);rintro e w3 ⟨Z3,rfl,h3,hfr3,hl3⟩;have H3:=hide h3;have HFR3:=hide hfr3;have HL3:=hide hl3;clear h3 hfr3 hl3 c2)
  | (go_at_call 34;(with_reducible refine (KS.out w3).mono ?_);rintro e w4 ⟨rfl,hw4⟩;subst hw4))
 go_ret2
 exact ⟨Z3,rfl,H3.out,HF2.out.trans HFR3.out (Pk.Later.refl _ _ _),HL3.out.up HF2.out.size⟩
def SoSame (w0 w:World) (Z:Pk) (s:Nat) (S:St) (R:Sr) (r:Value) (e:Ending) (w':World):Prop:=e= .returned r∧StoAt w0 w' Z s S R∧Sfr Z s S.P w w'
theorem sWrite_arg (h:StoAt w0 w Z s S R) (hr:inTxE S.D R=0) (hcn:R.count < 100000) (hd:S.D.dur.length≤4096) (x:Int) (hx:x < 0∨(S.D.dur.length:Int) - ((1 + R.count:Nat):Int)≤x) (B:Option Addr) (n cb:Nat):
  Calls Tryz.prog 12 #[.pointer (some ⟨s,0,none⟩), .int .i64 x, .slice B n cb] w (SoSame w0 w Z s S R (.int .i64 1)):=by
 have KR:=hide (sintxE_any h)
 rw [hr,ready_of_in hr,seenR_0] at KR
 have KPG:=hide (fun W (hW:StoAt w0 W Z s S R)=>spages_any hW hcn hd)
 obtain ⟨pn,HPN⟩:∃pn:Int,Hid ((S.D.dur.length:Int) - ((1 + R.count:Nat):Int)=pn):=⟨_,hide rfl⟩
 rw [HPN.out] at KPG hx
 clear h hr hcn hd
 by_cases h0:x < 0
 ·clear hx
  go_enter Tryz.func12,Tryz.ntmps12
  go_wp2_with (go_at_call 36;(with_reducible refine KR.out.mono ?_);rintro e2 w2 ⟨rfl,h2,hf2⟩;have H2:=hide h2;have HF2:=hide hf2;clear h2 hf2)
  go_ret
  exact ⟨rfl,H2.out,HF2.out⟩
 ·have h1:x≥pn:=by omega
  clear hx
  go_enter Tryz.func12,Tryz.ntmps12
  go_wp2_with (first
   | (go_at_call 36;(with_reducible refine KR.out.mono ?_);rintro e2 w2 ⟨rfl,h2,hf2⟩;have H2:=hide h2;have HF2:=hide hf2;clear h2 hf2)
   | (go_at_call 17;(with_reducible refine (KPG.out w2 H2.out).mono ?_);rintro e5 w5 ⟨rfl,k5,hw5⟩;have HX5:Hid (Ext w2 w5):=hide (by rw [hw5];exact (Ext.refl _).drewN k5);clear hw5))
  go_ret
  exact ⟨rfl,H2.out.ext_ HX5.out,HF2.out.trans (Sfr.ext HX5.out) (Pk.Later.refl _ _ _)⟩
theorem sWrite_form (h:StoAt w0 w Z s S R) (hr:inTxE S.D R=0) (hcn:R.count < 100000) (hd:S.D.dur.length≤4096) (x:Nat) (hx:(x:Int) < (S.D.dur.length:Int) - ((1 + R.count:Nat):Int)) (B:Option Addr) (n cb:Nat) (hn:n≠504):
  Calls Tryz.prog 12 #[.pointer (some ⟨s,0,none⟩), .int .i64 (x:Int), .slice B n cb] w (SoSame w0 w Z s S R (.int .i64 3)):=by
 have KR:=hide (sintxE_any h)
 rw [hr,ready_of_in hr,seenR_0] at KR
 have KPG:=hide (fun W (hW:StoAt w0 W Z s S R)=>spages_any hW hcn hd)
 obtain ⟨pn,HPN⟩:∃pn:Int,Hid ((S.D.dur.length:Int) - ((1 + R.count:Nat):Int)=pn):=⟨_,hide rfl⟩
 rw [HPN.out] at KPG hx
 have h0:¬(x:Int) < 0:=by omega
 have h1:¬(x:Int)≥pn:=by omega
 have h2:((n:Int) !=504)=true:=by simp only [bne_iff_ne,ne_eq];omega
 clear h hr hcn hd hx hn
 go_enter Tryz.func12,Tryz.ntmps12
 go_wp2_with (first
  | (go_at_call 36;(with_reducible refine KR.out.mono ?_);rintro e2 w2 ⟨rfl,h2,hf2⟩;have H2:=hide h2;have HF2:=hide hf2;clear h2 hf2)
  | (go_at_call 17;(with_reducible refine (KPG.out w2 H2.out).mono ?_);rintro e5 w5 ⟨rfl,k5,hw5⟩;have HX5:Hid (Ext w2 w5):=hide (by rw [hw5];exact (Ext.refl _).drewN k5);clear hw5))
 go_ret
 exact ⟨rfl,H2.out.ext_ HX5.out,HF2.out.trans (Sfr.ext HX5.out) (Pk.Later.refl _ _ _)⟩
end
def L0 (L:Lg):Lg:= { L with held:=0 }
structure RgH (D:Dk) (L:Lg) (H:List UInt8):Prop where
 rg:Rg D (L0 L) H
 room:H.length + L.held≤(L.hd.st / 480 + L.hd.cn) * 480
section
variable {D:Dk} {L:Lg} {H:List UInt8}
theorem RgH.of (h:Rg D L H):RgH D L H:=by
 have e:L0 L=L:=by
  have:=h.held
  unfold L0
  cases L
  simp_all
 exact ⟨e.symm▸h,by rw [h.held];exact h.ring⟩
theorem RgH.to (h:RgH D L H) (h0:L.held=0):Rg D L H:=by
 have e:L0 L=L:=by
  unfold L0
  cases L
  simp_all
 exact e▸h.rg
theorem RgH.end_ (h:RgH D L H):endOf L=H.length:=h.rg.end_
theorem RgH.roomOf (h:RgH D L H):roomOf L=(((L.hd.st / 480 + L.hd.cn) * 480:Nat):Int) - (H.length:Int) - (L.held:Int):=by
 unfold Proofs.YthmdmgnhfhpcaaaGreatDoor.roomOf
 rw [h.end_]
theorem RgH.app (h:RgH D L H) (p:List UInt8) (hp:RecOk p) (hold:Nat) (hr:H.length + 2 + p.length + L.held + hold≤(L.hd.st / 480 + L.hd.cn) * 480) (hb:H.length + 2 + p.length < 1000000000000):
  apE L p.length (hold:Int)=0∧RgH D (apL L p (hold:Int)) (H ++ frm p)∧(apL L p (hold:Int)).hd=L.hd∧(apL L p (hold:Int)).sure=L.sure∧(apL L p (hold:Int)).at_=L.at_∧(apL L p (hold:Int)).held=L.held + hold:=by
 have hE:apE L p.length (hold:Int)=0:=by
  unfold apE
  have h1:=hp.1
  have h2:=hp.2
  rw [h.roomOf,if_neg (by omega),if_neg (by omega),if_neg (by omega)]
 have hL:apL L p (hold:Int)=addL (heldL L (hold:Int)) p:=by unfold apL;rw [hE,if_pos rfl]
 obtain ⟨g1,g2,-,-,-⟩:=h.rg.app p hp (by have:(L0 L).hd=L.hd:=rfl;rw [this];omega) hb
 have hL2:apL (L0 L) p 0=addL (heldL (L0 L) 0) p:=by unfold apL;rw [g1,if_pos rfl]
 rw [hL2] at g2
 rw [hL]
 have hh:(addL (heldL L (hold:Int)) p).held=L.held + hold:=by
  show L.held + ((hold:Nat):Int).toNat=_
  rw [Int.toNat_natCast]
 refine ⟨hE,⟨g2, ?_⟩,rfl,rfl,rfl,hh⟩
 rw [hh,List.length_append,frm_len]
 show _≤(L.hd.st / 480 + L.hd.cn) * 480
 have:=hp.2
 omega
theorem RgH.rel (h:RgH D L H) (n:Nat):RgH D (relL L n) H:=⟨h.rg,by
 have:=h.room
 show H.length + (L.held - n)≤(L.hd.st / 480 + L.hd.cn) * 480
 omega⟩
theorem flW_L0 (L:Lg):∀(f k:Nat) (D:Dk),flW (L0 L) f k D=flW L f k D
 | 0,_,_=>rfl
 | f + 1,k,D=>by
  show (if L.tail.length≤480 * k then (0,D) else if wE D (flS L k) (flP L k)≠0 then (wE D (flS L k) (flP L k),wD D (flS L k) (flP L k)) else flW (L0 L) f (k + 1) (wD D (flS L k) (flP L k)))=_
  rw [flW_L0 L f (k + 1)]
  rfl
theorem RgH.flush (h:RgH D L H) (ho:D.ops < 400000):flE D L=0∧RgH (flD D L) (flL D L) H∧(flL D L).sure=H.length∧(flL D L).hd=L.hd∧(flL D L).at_=L.at_∧(flL D L).held=L.held∧(flD D L).ops≤D.ops + (L.tail.length + 479) / 480 + 1∧(flD D L).dur.length=D.dur.length:=by
 obtain ⟨g1,g2,g3,g4,g5,g6,g7⟩:=h.rg.flush ho
 have eZ:flZ D (L0 L)=flZ D L:=flW_L0 L _ _ _
 have eE:flE D (L0 L)=flE D L:=by
  show (if D.off=true then 8 else if L.sure=endOf L then 0 else if (flZ D (L0 L)).1≠0 then (flZ D (L0 L)).1 else sE (flZ D (L0 L)).2)=_
  rw [eZ]
  rfl
 have eD:flD D (L0 L)=flD D L:=by
  show (if D.off=true then D else if L.sure=endOf L then D else if (flZ D (L0 L)).1≠0 then (flZ D (L0 L)).2 else sD (flZ D (L0 L)).2)=_
  rw [eZ]
  rfl
 have eL:flL D (L0 L)=L0 (flL D L):=by
  unfold flL
  rw [eE]
  show (if flE D L=0∧¬L.sure=endOf L then sureL (L0 L) else L0 L)=_
  split <;> rfl
 have eH:(flL D L).held=L.held:=by unfold flL;split <;> rfl
 rw [eE] at g1
 rw [eD] at g2 g6 g7
 rw [eL] at g2 g3 g4 g5
 refine ⟨g1,⟨g2, ?_⟩,g3,g4,g5,eH,g6,g7⟩
 rw [eH,show (flL D L).hd=L.hd from g4]
 exact h.room
end
theorem fullB_len (k tx pv pg off nx:Int) (bf af:List UInt8) (L:List (Int×Int)) (op:Bool):(fullB k tx pv pg off nx bf af L op).length=13 + (if hpv k then 8 else 0) + (if hch k then 6 + bf.length + af.length else 0) + (if hnx k then 8 else 0) + (if hck k then 1 + 10 * L.length else 0):=by
 have e:(recB k tx pv pg off nx bf af L op).length=9 + (if hpv k then 8 else 0) + (if hch k then 6 + bf.length + af.length else 0) + (if hnx k then 8 else 0) + (if hck k then 1 + 10 * L.length else 0):=by
  unfold recB
  simp only [List.length_append,numN_length 1 _ (show 1≤8 by decide),numN_length 8 _ (show 8≤8 by decide)]
  have i1:(if hpv k then numN 8 pv else []).length=if hpv k then 8 else 0:=by split <;> simp [numN_length]
  have i2:(if hch k then numN 2 pg ++ (numN 2 off ++ (numN 2 (af.length:Int) ++ (bf ++ af))) else []).length=if hch k then 6 + bf.length + af.length else 0:=by
   split
   ·simp only [List.length_append,numN_length 2 _ (show 2≤8 by decide)];omega
   ·rfl
  have i3:(if hnx k then numN 8 nx else []).length=if hnx k then 8 else 0:=by split <;> simp [numN_length]
  have i4:(if hck k then numN 1 (cntN L.length op) ++ dirB L else []).length=if hck k then 1 + 10 * L.length else 0:=by
   split
   ·simp only [List.length_append,numN_length 1 _ (show 1≤8 by decide),dirB_length]
   ·rfl
  rw [i1,i2,i3,i4]
  omega
 unfold fullB
 rw [List.length_append,e,show (sumB (recB k tx pv pg off nx bf af L op)).length=4 from numN_length 4 _ (by decide)]
 omega
theorem plain1_len (tx:Nat):(plainB 1 tx 0).length=13:=by unfold plainB;rw [fullB_len];rfl
theorem plain4_len (tx pv:Nat):(plainB 4 tx pv).length=21:=by unfold plainB;rw [fullB_len];rfl
theorem plain5_len (tx pv:Nat):(plainB 5 tx pv).length=21:=by unfold plainB;rw [fullB_len];rfl
structure Way (S:St):Prop where
 pen:S.D.pen= []∨(S.P.m≠0∧¬S.P.sure < S.L.sure)
 cnt:∀i s,S.P.W i=some s→S.P.m≠0
section
variable {S:St} {c i:Nat} {f:Fm}
theorem settleP_cnt {L:Lg} {P:Pl} (h:∀i s,P.W i=some s→P.m≠0):(∀i s,(settleP L P).W i=some s→(settleP L P).m≠0)∧¬(settleP L P).sure < L.sure:=by
 unfold settleP
 split
 ·exact ⟨fun i s hi=>(by cases hi),Nat.lt_irrefl _⟩
 ·rename_i hn
  exact ⟨h,hn⟩
theorem wayP_m {P:Pl} (h:∀i s,P.W i=some s→P.m≠0) (i s:Nat):(wayP P i s).m≠0:=by
 unfold wayP
 split
 ·rename_i hs
  obtain ⟨x,hx⟩:=Option.isSome_iff_exists.1 hs
  exact h i x hx
 ·exact Nat.succ_ne_zero _
theorem storeR_way (g:Good S) (wy:Way S) (ft:S.Fit c) (hc:c≤400000) (hf:S.P.H i=some f) (hch:f.ch=true):Way (storeR S i f).2:=by
 obtain ⟨a1,-⟩:=aheadR_good g ft hf hch
 have h0:=(storeR_good g ft hc hf hch).1
 have hp:(storeR S i f).2.P=wayP (settleP (storeR S i f).2.L S.P) i f.since:=by
  unfold storeR at h0 ⊢
  rw [a1,if_neg (fun h=>h rfl)] at h0 ⊢
  by_cases h2:(putR (aheadR S f).2 i f).1≠0
  ·rw [if_pos h2] at h0;exact absurd h0 h2
  ·rw [if_neg h2];rfl
 have hs:=settleP_cnt (L:=(storeR S i f).2.L) wy.cnt
 refine ⟨.inr ⟨by rw [hp];exact wayP_m hs.1 _ _,by rw [hp,(wayP_is _ _ _).2.2.2.2.2.2.2.2];exact hs.2⟩,fun j s hj=>by rw [hp];exact wayP_m hs.1 _ _⟩
theorem storeR_Good (g:Good S) (ft:S.Fit c) (hc:c≤400000) (hf:S.P.H i=some f) (hch:f.ch=true):Good (storeR S i f).2:=by
 obtain ⟨s1,s2,s3,s4,s5,s6,s7,s8⟩:=storeR_good g ft hc hf hch
 obtain ⟨e1,e2,e3,e4,e5,e6,e7⟩:=storeR_P S i f
 have hfo:=(ft.pool.page i f hf).2
 obtain ⟨fb1,fb2⟩:=frameB_sec hfo.by_ hfo.last
 refine ⟨s2,by rw [s7,e7,e3];exact g.apart,fun j g' hj hc' => ?_,fun j g' hj=> ?_,fun j hj=> ?_,by rw [s3];exact s5,Nat.lt_of_lt_of_le g.pos s4⟩
 ·rw [e1] at hj
  have e:j≠i:=fun e=>by
   subst e
   rw [hf] at hj
   injection hj with hj
   rw [← hj,hch] at hc'
   cases hc'
  rw [e3,s8 j (ft.pool.page j g' hj).1,if_neg e]
  exact g.same j g' hj hc'
 ·rw [e1] at hj
  rw [s3];exact g.ahead j g' hj
 ·have hj':j < S.P.pages:=by rw [← e4];exact hj
  rw [e3,s8 j hj']
  by_cases e:j=i
  ·rw [if_pos e,fb2]
   have:=(g.ahead i f hf).2 hch
   exact .inl (by omega)
  ·rw [if_neg e]
   rcases g.wal j hj' with h | h
   ·exact .inl (by omega)
   ·exact .inr h
theorem storeR_held (S:St) (i:Nat) (f:Fm):(storeR S i f).2.L.held=S.L.held:=by
 have ha:(aheadR S f).2.L.held=S.L.held:=by
  unfold aheadR
  split
  ·exact (flL_hd _ _).2.2.1
  ·rfl
 unfold storeR
 split
 ·exact ha
 ·split
  ·exact ha
  ·exact ha
theorem roomR_way (g:Good S) (wy:Way S) (ft:S.Fit c) (hc:c≤400000):Way (roomR S).2∧(roomR S).2.L.held=S.L.held:=by
 unfold roomR
 split
 ·exact ⟨wy,rfl⟩
 ·split
  ·exact ⟨wy,rfl⟩
  ·rename_i i _
   split
   ·exact ⟨wy,rfl⟩
   ·rename_i f hf
    split
    ·rename_i hch
     have h1:=storeR_way g wy ft hc hf hch
     have h2:=storeR_held S i f
     split
     ·exact ⟨h1,h2⟩
     ·exact ⟨⟨h1.pen,h1.cnt⟩,h2⟩
    ·exact ⟨⟨wy.pen,wy.cnt⟩,rfl⟩
theorem pageR_way (g:Good S) (wy:Way S) (ft:S.Fit c) (hc:c≤400000) (x:Int):Way (pageR S x).2∧(pageR S x).2.L.held=S.L.held:=by
 obtain ⟨h1,h2⟩:=roomR_way g wy ft hc
 unfold pageR
 split
 ·exact ⟨wy,rfl⟩
 ·split
  ·exact ⟨⟨wy.pen,wy.cnt⟩,rfl⟩
  ·split
   ·exact ⟨wy,rfl⟩
   ·split
    ·exact ⟨h1,h2⟩
    ·exact ⟨⟨h1.pen,h1.cnt⟩,h2⟩
theorem pageR_sub (ft:S.Fit c) (hc:c≤400000) {j:Nat} {f:Fm} (hj:j≠i) (h:(pageR S (i:Int)).2.P.H j=some f):S.P.H j=some f:=by
 have hr:=(roomR_fit ft hc).2.2.2.2.1
 unfold pageR at h
 split at h
 ·exact h
 ·rw [Int.toNat_natCast] at h
  split at h
  ·exact (upM_other _ _ hj).symm.trans h
  ·split at h
   ·exact h
   ·split at h
    ·exact hr j f h
    ·exact hr j f ((upM_other _ _ hj).symm.trans ((upM_other _ _ hj).symm.trans h))
theorem stAll_good:∀(zs:List Nat) (S:St) (c:Nat),Good S→Way S→S.Fit c→c + zs.length * (S.L.hd.cn + 3)≤400000→zs.Nodup→(∀i,i∈zs→∃f,S.P.H i=some f∧f.ch=true)→
  (stAll zs S).1=0∧Good (stAll zs S).2∧Way (stAll zs S).2∧(stAll zs S).2.P.H=S.P.H∧(stAll zs S).2.P.at_=S.P.at_∧(stAll zs S).2.P.pages=S.P.pages∧(stAll zs S).2.Fit (c + zs.length * (S.L.hd.cn + 3))∧(stAll zs S).2.D.dur.length=S.D.dur.length∧
  (∀j f,j∈zs→S.P.H j=some f→(stAll zs S).2.D.at (S.P.at_ + j)=secB f)∧∀j,j < S.P.pages→j∉zs→(stAll zs S).2.D.at (S.P.at_ + j)=S.D.at (S.P.at_ + j)
 | [],S,c,g,wy,ft,_,_,_=>⟨rfl,g,wy,rfl,rfl,rfl,by rw [List.length_nil,Nat.zero_mul];exact ft,rfl,fun j f h=>absurd h List.not_mem_nil,fun j _ _=>rfl⟩
 | i::zs,S,c,g,wy,ft,hc,hn,hz=>by
  obtain ⟨f,hf,hch⟩:=hz i List.mem_cons_self
  rw [List.length_cons,Nat.succ_mul] at hc
  have hc1:c≤400000:=by omega
  obtain ⟨s1,s2,s3,s4,s5,s6,s7,s8⟩:=storeR_good g ft hc1 hf hch
  obtain ⟨e1,e2,e3,e4,e5,e6,e7⟩:=storeR_P S i f
  obtain ⟨f1,f2⟩:=storeR_fit ft hc1 hf
  rw [List.nodup_cons] at hn
  have ih:=stAll_good zs (storeR S i f).2 (c + S.L.hd.cn + 3) (storeR_Good g ft hc1 hf hch) (storeR_way g wy ft hc1 hf hch) f1 (by rw [e7];omega) hn.2 (fun j hj=>by rw [e1];exact hz j (List.mem_cons_of_mem _ hj))
  rw [e1,e3,e4,e7,f2] at ih
  obtain ⟨i1,i2,i3,i4,i5,i6,i7,i8,i9,i10⟩:=ih
  rw [stAll_cons hf,s1,if_neg (fun h=>h rfl)]
  refine ⟨i1,i2,i3,i4,i5,i6,i7.mono (by rw [List.length_cons,Nat.succ_mul];omega),i8,fun j f' hj hf' => ?_,fun j hj hjz=> ?_⟩
  ·by_cases e:j=i
   ·subst e
    rw [hf] at hf'
    injection hf' with hf'
    subst hf'
    rw [i10 j (ft.pool.page j f hf).1 hn.1,s8 j (ft.pool.page j f hf).1,if_pos rfl]
   ·rcases List.mem_cons.1 hj with h | h
    ·exact absurd h e
    ·exact i9 j f' h hf'
  ·rw [List.mem_cons,not_or] at hjz
   rw [i10 j hj hjz.2,s8 j hj,if_neg hjz.1]
theorem sD_pen {D:Dk} (h:Awk D):(sD D).pen= []:=by
 unfold sD
 rw [if_neg (by rw [h.1];decide),if_neg (by rw [h.2];decide)]
 rfl
theorem pflR_good {zs:List Nat} (g:Good S) (wy:Way S) (ft:S.Fit c) (hc:c + zs.length * (S.L.hd.cn + 3)≤400000) (hz:ChL S.P zs):(pflR zs S).1=0∧(pflR zs S).2.D.pen= []∧Awk (pflR zs S).2.D∧Bd (pflR zs S).2.D∧(pflR zs S).2.D.dur.length=S.D.dur.length∧
  ∀j,j < S.P.pages→((frameB ((pflR zs S).2.D.at (S.P.at_ + j))).by_,(frameB ((pflR zs S).2.D.at (S.P.at_ + j))).last)=cont S j:=by
 obtain ⟨i1,i2,i3,i4,i5,i6,i7,i8,i9,i10⟩:=stAll_good zs S c g wy ft hc hz.nodup (fun i hi=>(hz.mem i).1 hi)
 have hcont:∀j,j < S.P.pages→((frameB ((stAll zs S).2.D.at (S.P.at_ + j))).by_,(frameB ((stAll zs S).2.D.at (S.P.at_ + j))).last)=cont S j:=fun j hj=>by
  unfold cont
  cases hH:S.P.H j with
  | none=>
   have hn:j∉zs:=fun h=>by
    obtain ⟨f,hf,-⟩:=(hz.mem j).1 h
    rw [hH] at hf;cases hf
   rw [i10 j hj hn]
  | some f=>
   have hfo:=(ft.pool.page j f hH).2
   obtain ⟨fb1,fb2⟩:=frameB_sec hfo.by_ hfo.last
   by_cases hch:f.ch=true
   ·rw [i9 j f ((hz.mem j).2 ⟨f,hH,hch⟩) hH,fb1,fb2]
   ·have hn:j∉zs:=fun h=>by
     obtain ⟨f',hf,hc'⟩:=(hz.mem j).1 h
     rw [hH] at hf
     injection hf with hf
     rw [← hf] at hc'
     exact hch hc'
    rw [i10 j hj hn]
    exact (g.same j f hH (by simpa using hch)).symm
 have hlt:∀j,j < S.P.pages→S.P.at_ + j < (stAll zs S).2.D.dur.length:=fun j hj=>by
  have h1:S.P.at_ + S.P.pages≤S.D.dur.length:=ft.pool.at_
  omega
 unfold pflR
 rw [i1,if_neg (fun h=>h rfl)]
 generalize stAll zs S=R at *
 obtain ⟨r,S1⟩:=R
 simp only at i1 i2 i3 i4 i5 i6 i7 i8 i9 i10 hcont hlt ⊢
 by_cases hm:(settleP S1.L S1.P).m=0
 ·rw [if_pos hm]
  refine ⟨rfl, ?_,i2.awk,i7.bd,i8,hcont⟩
  rcases i3.pen with h | ⟨h1,h2⟩
  ·exact h
  ·refine absurd hm ?_
   unfold settleP
   rw [if_neg h2];exact h1
 ·have hE:sE S1.D=0:=awk_sync i2.awk
  rw [if_neg hm,hE,if_neg (fun h=>h rfl)]
  have hb:=sD_bd i7.bd (by have:=i7.ops;omega)
  exact ⟨rfl,sD_pen i2.awk,awk_sD i2.awk,hb.1,hb.2.2.2.trans i8,fun j hj=>by
   show ((frameB ((sD S1.D).at (S.P.at_ + j))).by_,(frameB ((sD S1.D).at (S.P.at_ + j))).last)=_
   rw [at_sD i2.awk _ (hlt j hj)]
   exact hcont j hj⟩
end
section
variable {S S1:St} {c i:Nat} {f:Fm} {x:Int}
theorem roomR_held:(roomR S).2.L.held=S.L.held:=by
 unfold roomR
 split
 ·rfl
 ·cases hid:idle S.P.H S.P.pages with
  | none=>rfl
  | some i=>
   cases hf:S.P.H i with
   | none=>simp only [hf]
   | some f=>
    simp only [hf]
    split
    ·split
     ·exact storeR_held _ _ _
     ·exact storeR_held _ _ _
    ·rfl
theorem pageR_held:(pageR S x).2.L.held=S.L.held:=by
 unfold pageR
 split
 ·rfl
 ·cases hf:S.P.H x.toNat with
  | some f=>rfl
  | none=>
   show (if _ then _ else if _ then _ else _:Int×St).2.L.held=_
   split
   ·rfl
   ·split
    ·exact roomR_held
    ·exact roomR_held
theorem pageR_room (g:Good S) (ft:S.Fit c) (hc:c≤400000) (hi:i < S.P.pages) (hr:S.P.H i≠none∨S.P.n < S.P.frames∨idle S.P.H S.P.pages≠none):roomOf (pageR S (i:Int)).2.L=roomOf S.L:=by
 obtain ⟨-,-,-,-,-,e1,-⟩:=pageR_good g ft hc hi hr
 obtain ⟨-,-,e2,-⟩:=pageR_fit ft hc (i:Int)
 unfold roomOf
 rw [e1,e2,pageR_held]
end
theorem undoB_len (R:Sr) (x f:Nat) (old:List UInt8):(undoB R x f old).length=35 + old.length:=by
 unfold undoB
 rw [fullB_len]
 show 13 + 8 + (6 + 0 + old.length) + 8 + 0=_
 omega
theorem form_undo (la:Int) (x f d:Nat) (hx:x < 4096) (h:f + d≤504) (h0:0 < d):formN 3 0 (x:Int) (f:Int) la d 0 0 [] false=true:=by
 unfold formN chgN chkN
 simp [hok,hpv,hch,hbf,hnx,hck,isPg]
 omega
theorem form_upd (pv:Int) (x f d:Nat) (hx:x < 4096) (h:f + d≤504) (h0:0 < d):formN 2 pv (x:Int) (f:Int) 0 d d 0 [] false=true:=by
 unfold formN chgN chkN
 simp [hok,hpv,hch,hbf,hnx,hck,isPg]
 omega
def updB (R:Sr) (x f:Nat) (old new:List UInt8):List UInt8:=fullB 2 (R.number:Int) (R.last:Int) (x:Int) (f:Int) 0 old new [] false
theorem updB_len (R:Sr) (x f:Nat) (old new:List UInt8):(updB R x f old new).length=27 + old.length + new.length:=by
 unfold updB
 rw [fullB_len]
 show 13 + 8 + (6 + old.length + new.length) + 0 + 0=_
 omega
section
variable {w0 w w':World} {Z:Pk} {s c c2:Nat} {S S1:St} {R:Sr}
def WrS (w0 w:World) (Z:Pk) (s:Nat) (S S1:St) (R:Sr) (x:Nat) (o b:List UInt8) (e:Ending) (w':World):Prop:=
 (∃f,Dif o b 504 f f∧SoPost w0 w Z s S.P (.int .i64 0) S1 R e w')∨
 (∃f d S2 g,0 < d∧f + d≤504∧Dif o b 504 f (f + d)∧pageR ⟨S1.D,apL S1.L (updB R x f ((o.drop f).take d) ((b.drop f).take d)) ((37 + d:Nat):Int),S1.P⟩ (x:Int)=(0,S2)∧S2.P.H x=some g∧SoPost w0 w Z s S.P (.int .i64 0) (setS S2 x (chF g f ((b.drop f).take d) (endOf S1.L))) { R with last:=endOf S1.L } e w')
theorem swrite_go (h:StoAt w0 w Z s S R) (ft:S.Fit c) (hc:c≤400000) (hT:Tab w0) (x:Nat) (hp:pageR S (x:Int)=(0,S1)) (f1:Fm) (hf1:S1.P.H x=some f1) (hl:f1.by_.length=504) (B:Option Addr) (cb:Nat) (bb:List UInt8) (hB:Rd w B bb) (hbl:bb.length=504) (hcb:504≤cb) (hBk:∀a,B=some a→a.block < w.heap.size∧¬Z.has S.P a.block∧a.block≠s) (hnum:R.number < 18446744073709551616∧R.last < 18446744073709551616) (hux:x < 4096)
  (ok1:S1.L.Ok S1.D) (hs:S1.L.hd.st < 576460752303423488) (htl:S1.L.tail.length < 500000000) (hc2:c2≤400000)
  (hall:∀f d:Nat,f + d≤504→0 < d→apE S1.L (27 + d + d) ((37 + d:Nat):Int)=0∧(⟨S1.D,apL S1.L (updB R x f ((f1.by_.drop f).take d) ((bb.drop f).take d)) ((37 + d:Nat):Int),S1.P⟩:St).Fit c2∧∃S2,pageR ⟨S1.D,apL S1.L (updB R x f ((f1.by_.drop f).take d) ((bb.drop f).take d)) ((37 + d:Nat):Int),S1.P⟩ (x:Int)=(0,S2)):
  Calls Tryz.prog 37 #[.pointer (some ⟨s,0,none⟩), .int .i64 (x:Int), .slice B 504 cb] w (WrS w0 w Z s S S1 R x f1.by_ bb):=by
 have hlen:∀(l:List UInt8) (f d:Nat),l.length=504→f + d≤504→((l.drop f).take d).length=d:=fun l f d h1 h2=>by rw [List.length_take,List.length_drop];omega
 refine swrite_in h ft hc hT x hp f1 hf1 hl B cb bb hB hbl hcb hBk _ hnum hux (fun f d h1 h2=>⟨form_undo _ x f d hux h1 h2,by rw [undoB_len,hlen _ f d hl h1];omega⟩) (fun f t d W Z2 A5 k5 A6 k6 hd hft hd0 hW hsf hla hrd=> ?_) (fun f W Z2 hd hW hsf hla=> .inl ⟨f,hd,Z2,rfl,hW,hsf,hla⟩)
 subst hft
 have hle:=hd.le
 have h5:=hlen f1.by_ f d hl hle.2
 have h6:=hlen bb f d hbl hle.2
 obtain ⟨a1,a2,S2,a3⟩:=hall f d hle.2 hd0
 have hx0:=hW.pool.log.ext
 rw [undoB_len,h5,show 2 + (35 + d)=37 + d by omega]
 have k:=schange_ok (S1:=S2) hW ok1 hs htl hT (.int .u8 2) (.int .u64 (R.number:Int)) (.int .u64 (R.last:Int)) (.slice A5 d k5) (.int .u64 0) (.slice none 0 0) (.bool false) x f A6 ((bb.drop f).take d) d k6 h6 hle.2 (fun W' hW' =>(hrd W' hW').2) (updB R x f ((f1.by_.drop f).take d) ((bb.drop f).take d)) (by rw [updB_len,h5,h6];omega) ((37 + d:Nat):Int) (by omega) (fun W' hW' =>by
  obtain ⟨r5,r6⟩:=hrd W' (Sfr.ext hW')
  exact encode_yes 2 (R.number:Int) (R.last:Int) (x:Int) (f:Int) 0 A5 A6 none d k5 d k6 0 0 false W' ((f1.by_.drop f).take d) ((bb.drop f).take d) [] (hT.ext (hx0.trans hW')) r5 r6 (fun hn=>absurd rfl hn) h5 h6 rfl (by decide) (by omega) (by omega) (by omega) (by omega) (by omega) (by omega) (by omega) (by omega) (by decide) (by decide) (fun e he=>by cases he) (form_upd _ x f d hux hle.2 hd0)) (by rw [updB_len,h5,h6];exact a1) a2 hc2 a3
 refine k.mono fun e w' hh=> ?_
 obtain ⟨g,hg,hpo⟩:=hh
 refine ⟨?_, .inr ⟨f,d,S2,g,hd0,hle.2,hd,a3,hg,SoPost.then hsf hla hpo⟩⟩
 obtain ⟨Z',he,h1,h2,-⟩:=hpo
 exact ⟨0,Z',_,_,he,h1,h2⟩
end
section
variable {S S1 S2:St} {c x:Nat}
theorem apL_is (L:Lg) (l:List UInt8) (hold:Int):(apL L l hold).hd=L.hd∧(apL L l hold).at_=L.at_∧(apL L l hold).sure=L.sure∧endOf L≤endOf (apL L l hold)∧(apL L l hold).tail.length≤L.tail.length + 2 + l.length:=by
 unfold apL
 split
 ·have e:(addL (heldL L hold) l).tail=(L.tail ++ be2 l.length) ++ l:=rfl
  have hb:(be2 l.length).length=2:=rfl
  refine ⟨rfl,rfl,rfl, ?_, ?_⟩
  ·show flo L.sure + L.tail.length≤flo L.sure + ((L.tail ++ be2 l.length) ++ l).length
   rw [List.length_append,List.length_append]
   omega
  ·rw [e,List.length_append,List.length_append,hb]
   omega
 ·exact ⟨rfl,rfl,rfl,Nat.le_refl _,by omega⟩
theorem apL_good (g:Good S) (l:List UInt8) (hold:Int):Good ⟨S.D,apL S.L l hold,S.P⟩:=by
 obtain ⟨e1,e2,e3,e4,-⟩:=apL_is S.L l hold
 refine ⟨g.awk, ?_,g.same,fun i f hf=> ?_,fun i hi=> ?_, ?_, ?_⟩
 ·show (apL S.L l hold).at_ + 1 + (apL S.L l hold).hd.cn≤S.P.at_
  rw [e1,e2]
  exact g.apart
 ·obtain ⟨h1,h2⟩:=g.ahead i f hf
  exact ⟨Nat.lt_of_lt_of_le h1 e4,h2⟩
 ·show _ < (apL S.L l hold).sure∨_
  rw [e3]
  exact g.wal i hi
 ·show (apL S.L l hold).sure≤endOf (apL S.L l hold)
  rw [e3]
  exact Nat.le_trans g.sure e4
 ·show 0 < (apL S.L l hold).sure
  rw [e3]
  exact g.pos
end
theorem overAt (l:List UInt8) (off:Nat) (m:List UInt8) (h:off + m.length≤l.length) (j:Nat):(over l off m)[j]? =if j < off then l[j]? else if j < off + m.length then m[j - off]? else l[j]? :=by
 have h1:(l.take off).length=off:=by rw [List.length_take];omega
 unfold over
 by_cases h2:j < off
 ·rw [if_pos h2,List.getElem?_append_left (by omega),List.getElem?_take_of_lt h2]
 ·rw [if_neg h2,List.getElem?_append_right (by omega),h1]
  by_cases h3:j < off + m.length
  ·rw [if_pos h3,List.getElem?_append_left (by omega)]
  ·rw [if_neg h3,List.getElem?_append_right (by omega),List.getElem?_drop]
   congr 1
   omega
theorem dif_over {a b:List UInt8} {f d:Nat} (ha:a.length=504) (hb:b.length=504) (h:Dif a b 504 f (f + d)):over a f ((b.drop f).take d)=b:=by
 have hle:=h.le
 have hd:((b.drop f).take d).length=d:=by rw [List.length_take,List.length_drop];omega
 apply List.ext_getElem?
 intro j
 rw [overAt _ _ _ (by omega),hd]
 by_cases h1:j < f
 ·rw [if_pos h1,h.pre j h1]
 ·rw [if_neg h1]
  by_cases h2:j < f + d
  ·rw [if_pos h2,List.getElem?_take_of_lt (by omega),List.getElem?_drop]
   congr 1
   omega
  ·rw [if_neg h2]
   by_cases h3:j < 504
   ·exact h.post j (by omega) h3
   ·rw [List.getElem?_eq_none (by omega),List.getElem?_eq_none (by omega)]
theorem dif_same {a b:List UInt8} {f:Nat} (ha:a.length=504) (hb:b.length=504) (h:Dif a b 504 f f):a=b:=by
 have k:=dif_over (d:=0) ha hb h
 rw [List.take_zero] at k
 rw [← k]
 simp [over]
def Can (S:St):Prop:=(∀i g,S.P.H i=some g→g.pins=0)∧(S.P.n < S.P.frames∨∃i g,S.P.H i=some g)
structure Sv (S:St) (n c f k:Nat):Prop where
 good:Good S
 way:Way S
 fit:S.Fit k
 can:Can S
 pages:S.P.pages=n - (1 + c)
 frames:S.P.frames=f
 at_:S.P.at_=1 + c
 dur:S.D.dur.length=n
 cn:S.L.hd.cn=c
 st:S.L.hd.st < 1000000000000∧S.L.hd.st≤S.L.sure
section
variable {S S1 S2:St} {n c f k x:Nat} {g:Fm}
theorem Can.had {m:Nat} (h:Can S) (ok:S.P.Ok m) (x:Nat):S.P.H x≠none∨S.P.n < S.P.frames∨idle S.P.H S.P.pages≠none:=by
 rcases h.2 with h1 | ⟨i,g,h1⟩
 ·exact .inr (.inl h1)
 ·exact .inr (.inr (idle_ne ok g.used i g h1 (h.1 i g h1) (Nat.le_refl _)))
theorem Sv.ops (h:Sv S n c f k) {k2:Nat} (hk:k≤k2):Sv S n c f k2:=⟨h.good,h.way,h.fit.mono hk,h.can,h.pages,h.frames,h.at_,h.dur,h.cn,h.st⟩
theorem Sv.page (h:Sv S n c f k) (hk:k + c + 4≤400000) (hx:x < n - (1 + c)):
  (pageR S (x:Int)).1=0∧Sv (pageR S (x:Int)).2 n c f (k + c + 4)∧endOf (pageR S (x:Int)).2.L=endOf S.L∧roomOf (pageR S (x:Int)).2.L=roomOf S.L∧(pageR S (x:Int)).2.L.hd=S.L.hd∧(∀j,j < n - (1 + c)→cont (pageR S (x:Int)).2 j=cont S j)∧∃g,(pageR S (x:Int)).2.P.H x=some g∧(g.by_,g.last)=cont S x∧g.by_.length=504:=by
 have hx2:x < S.P.pages:=by rw [h.pages];exact hx
 have hr:=h.can.had h.fit.pool x
 obtain ⟨a1,a2,a3,-,⟨g,b1,b2,b3,-⟩,a5,a6⟩:=pageR_good h.good h.fit (by omega) hx2 hr
 obtain ⟨d1,d2,d3,d4,d5,d6⟩:=pageR_fit h.fit (c:=k) (by omega) (x:Int)
 have hroom:=pageR_room h.good h.fit (c:=k) (by omega) hx2 hr
 rw [h.cn] at d1
 refine ⟨a1,⟨a2,(pageR_way h.good h.way h.fit (by omega) (x:Int)).1,d1,⟨fun i g2 hg2=> ?_, .inr ⟨x,g,b1⟩⟩,d5.trans h.pages,d6.trans h.frames,d4.trans h.at_,d2.trans h.dur,by rw [d3];exact h.cn,by rw [d3];exact ⟨h.st.1,Nat.le_trans h.st.2 a6⟩⟩,a5,hroom,d3,fun j hj=>a3 j (by rw [h.pages];exact hj),g,b1,b2,(d1.pool.page x g b1).2.by_⟩
 by_cases e:i=x
 ·subst e
  rw [b1] at hg2
  injection hg2 with hg2
  subst hg2
  rw [b3]
  cases hH:S.P.H i with
  | none=>rfl
  | some f0=>exact h.can.1 i f0 hH
 ·exact h.can.1 i g2 (pageR_sub h.fit (by omega) e hg2)
theorem Sv.page_still (h:Sv S n c f k) (hx:x < n - (1 + c)) (hr:S.P.H x≠none∨S.P.n < S.P.frames):(pageR S (x:Int)).2.D=S.D∧(pageR S (x:Int)).2.L=S.L∧(pageR S (x:Int)).2.P.sure=S.P.sure∧(pageR S (x:Int)).2.P.m=S.P.m∧(pageR S (x:Int)).2.P.W=S.P.W∧(pageR S (x:Int)).2.P.n≤S.P.n + (if S.P.H x=none then 1 else 0)∧∀j,j≠x→(pageR S (x:Int)).2.P.H j=S.P.H j:=by
 have hx2:x < S.P.pages:=by rw [h.pages];exact hx
 cases hH:S.P.H x with
 | some f0=>
  unfold pageR
  rw [if_neg (by omega),Int.toNat_natCast,hH]
  exact ⟨rfl,rfl,rfl,rfl,rfl,Nat.le_add_right _ _,fun j hj=>upM_other _ _ hj⟩
 | none=>
  have hn:S.P.n < S.P.frames:=hr.resolve_left (fun e=>e hH)
  rw [page_new h.good.awk h.fit hx2 hH hn]
  exact ⟨rfl,rfl,rfl,rfl,rfl,by rw [if_pos rfl];exact Nat.le_refl _,fun j hj=>(upM_other _ _ hj).trans (upM_other _ _ hj)⟩
theorem Sv.app (h:Sv S n c f k) (l:List UInt8) (hold:Nat) (hl:0 < l.length∧l.length≤1200) (hr:(2 + l.length + hold:Int)≤roomOf S.L):
  apE S.L l.length (hold:Int)=0∧Sv ⟨S.D,apL S.L l (hold:Int),S.P⟩ n c f k∧endOf (apL S.L l (hold:Int))=endOf S.L + 2 + l.length∧roomOf (apL S.L l (hold:Int))=roomOf S.L - 2 - l.length - hold∧(apL S.L l (hold:Int)).hd=S.L.hd∧(apL S.L l (hold:Int)).sure=S.L.sure:=by
 have hE:apE S.L l.length (hold:Int)=0:=by
  unfold apE
  rw [if_neg (by omega),if_neg (by omega),if_neg (by omega)]
 obtain ⟨e1,e2,e3,-,-⟩:=apL_is S.L l (hold:Int)
 have hL:apL S.L l (hold:Int)=addL (heldL S.L (hold:Int)) l:=by unfold apL;rw [hE,if_pos rfl]
 have eh:(apL S.L l (hold:Int)).held=S.L.held + hold:=by
  rw [hL]
  show S.L.held + ((hold:Nat):Int).toNat=_
  rw [Int.toNat_natCast]
 have et:(apL S.L l (hold:Int)).tail.length=S.L.tail.length + 2 + l.length:=by
  rw [hL]
  have e:(addL (heldL S.L (hold:Int)) l).tail=(S.L.tail ++ be2 l.length) ++ l:=rfl
  have hb:(be2 l.length).length=2:=rfl
  rw [e,List.length_append,List.length_append,hb]
 have ee:endOf (apL S.L l (hold:Int))=endOf S.L + 2 + l.length:=by
  unfold endOf
  rw [e3,et]
  omega
 have er:roomOf (apL S.L l (hold:Int))=roomOf S.L - 2 - l.length - hold:=by
  unfold roomOf
  rw [ee,e1,eh]
  omega
 have ok:=h.fit.log
 have hro:(0:Int)≤roomOf (apL S.L l (hold:Int)):=by rw [er];omega
 have hst:=h.st
 have hcn:=ok.cn.2
 have hbound:flo S.L.sure + (apL S.L l (hold:Int)).tail.length + (apL S.L l (hold:Int)).held≤(S.L.hd.st / 480 + S.L.hd.cn) * 480:=by
  unfold roomOf endOf at hro
  rw [e1,e3] at hro
  omega
 have hflo:S.L.hd.st / 480 * 480≤flo S.L.sure:=by unfold flo;omega
 have hbound2:(apL S.L l (hold:Int)).tail.length + (apL S.L l (hold:Int)).held≤S.L.hd.cn * 480:=by omega
 have hft:(⟨S.D,apL S.L l (hold:Int),S.P⟩:St).Fit k:=by
  refine ⟨h.fit.bd,⟨by rw [e1];exact ok.hd,by rw [e1];exact ok.cn,by rw [e1,e2];exact ok.at_,by rw [e3];exact ok.sure, ?_, ?_⟩,h.fit.pool,h.fit.pen,h.fit.ops, ?_,by show (apL S.L l (hold:Int)).sure≤_;rw [e3];exact h.fit.sure,h.fit.asked,h.fit.wcnt⟩
  ·show (apL S.L l (hold:Int)).tail.length < _
   omega
  ·show (apL S.L l (hold:Int)).held < _
   omega
  ·show (apL S.L l (hold:Int)).tail.length≤480 * (apL S.L l (hold:Int)).hd.cn
   rw [e1]
   omega
 exact ⟨hE,⟨apL_good h.good l _,⟨by show S.D.pen= []∨(S.P.m≠0∧¬S.P.sure < (apL S.L l (hold:Int)).sure);rw [e3];exact h.way.pen,h.way.cnt⟩,hft,h.can,h.pages,h.frames,h.at_,h.dur,by show (apL S.L l (hold:Int)).hd.cn=c;rw [e1];exact h.cn,by show (apL S.L l (hold:Int)).hd.st < _∧(apL S.L l (hold:Int)).hd.st≤(apL S.L l (hold:Int)).sure;rw [e1,e3];exact h.st⟩,ee,er,e1,e3⟩
theorem Sv.set (h:Sv S n c f k) (hf:S.P.H x=some g) (off:Nat) (m:List UInt8) (lsn:Nat) (hm:off + m.length≤504) (hl:lsn < endOf S.L) (hb:lsn < 18446744073709551616):Sv (setS S x (chF g off m lsn)) n c f k∧∀j,cont (setS S x (chF g off m lsn)) j=if j=x then (over g.by_ off m,lsn) else cont S j:=by
 obtain ⟨g1,g2⟩:=write_good h.good hf off m lsn hl
 have hok:=(h.fit.pool.page x g hf).2
 refine ⟨⟨g1,⟨h.way.pen,h.way.cnt⟩,setS_fit h.fit hf (chF_ok hok off m lsn hm hb) rfl,⟨fun i g2 hg2=> ?_, ?_⟩,h.pages,h.frames,h.at_,h.dur,h.cn,h.st⟩,g2⟩
 ·have hg2:upM S.P.H x (some (chF g off m lsn)) i=some g2:=hg2
  by_cases e:i=x
  ·subst e
   rw [upM_same] at hg2
   injection hg2 with hg2
   subst hg2
   exact h.can.1 i g hf
  ·rw [upM_other _ _ e] at hg2
   exact h.can.1 i g2 hg2
 ·exact .inr ⟨x,chF g off m lsn,upM_same _ _ _⟩
theorem Sv.bigd (h:Sv S n c f k) (hr:0≤roomOf S.L):endOf S.L < 1000010000000:=by
 have hst:=h.st
 have hcn:=h.fit.log.cn.2
 unfold roomOf at hr
 omega
def WrD (S:St) (R:Sr) (x:Nat) (b:List UInt8) (S':St) (R':Sr):Prop:=
 (R' =R∧pageR S (x:Int)=(0,S')∧(cont S x).1=b)∨
 (∃S1 f d S2 g,pageR S (x:Int)=(0,S1)∧0 < d∧f + d≤504∧over (cont S x).1 f ((b.drop f).take d)=b∧pageR ⟨S1.D,apL S1.L (updB R x f (((cont S x).1.drop f).take d) ((b.drop f).take d)) ((37 + d:Nat):Int),S1.P⟩ (x:Int)=(0,S2)∧S2.P.H x=some g∧S' =setS S2 x (chF g f ((b.drop f).take d) (endOf S1.L))∧R' = { R with last:=endOf S1.L })
theorem cutl {l:List UInt8} {f d:Nat} (h1:l.length=504) (h2:f + d≤504):((l.drop f).take d).length=d:=by rw [List.length_take,List.length_drop];omega
theorem Sv.hall (h:Sv S n c f k) (hk:k + c + 4≤400000) (hx:x < n - (1 + c)) (hr:1578≤roomOf S.L) (R:Sr) (o b:List UInt8) (ho:o.length=504) (hb:b.length=504):∀f d:Nat,f + d≤504→0 < d→apE S.L (27 + d + d) ((37 + d:Nat):Int)=0∧(⟨S.D,apL S.L (updB R x f ((o.drop f).take d) ((b.drop f).take d)) ((37 + d:Nat):Int),S.P⟩:St).Fit k∧∃S2,pageR ⟨S.D,apL S.L (updB R x f ((o.drop f).take d) ((b.drop f).take d)) ((37 + d:Nat):Int),S.P⟩ (x:Int)=(0,S2):=fun f d hfd hd=>by
 have hlen:(updB R x f ((o.drop f).take d) ((b.drop f).take d)).length=27 + d + d:=by rw [updB_len,cutl ho hfd,cutl hb hfd]
 obtain ⟨a1,a2,-⟩:=h.app (updB R x f ((o.drop f).take d) ((b.drop f).take d)) (37 + d) (by rw [hlen];omega) (by rw [hlen];omega)
 obtain ⟨p1,-⟩:=a2.page hk hx
 rw [hlen] at a1
 exact ⟨a1,a2.fit,(pageR ⟨S.D,apL S.L (updB R x f ((o.drop f).take d) ((b.drop f).take d)) ((37 + d:Nat):Int),S.P⟩ (x:Int)).2,by rw [← p1]⟩
theorem WrD.sv {R R':Sr} {S':St} {b:List UInt8} (w:WrD S R x b S' R') (h:Sv S n c f k) (hk:k + c + c + 8≤400000) (hx:x < n - (1 + c)) (hr:1578≤roomOf S.L) (hb:b.length=504):
  Sv S' n c f (k + c + c + 8)∧(cont S' x).1=b∧(∀j,j < n - (1 + c)→j≠x→cont S' j=cont S j)∧endOf S.L≤endOf S'.L∧endOf S'.L≤endOf S.L + 1037∧roomOf S.L - 1578≤roomOf S'.L∧R'.count=R.count∧R'.begun=R.begun∧R'.op=R.op∧R'.number=R.number∧R'.fallen=R.fallen∧(R'.last=R.last∨R'.last=endOf S.L)∧S'.L.hd=S.L.hd:=by
 obtain ⟨a1,a2,a3,a4,a5,a6,g,a7,a8,a9⟩:=h.page (x:=x) (by omega) hx
 rcases w with ⟨rfl,hp,hc⟩ | ⟨S1,f0,d,S2,g2,hp,hd,hfd,hov,hp2,hg2,rfl,rfl⟩
 ·rw [hp] at a2 a3 a4 a5 a6
  dsimp only at a2 a3 a4 a5 a6
  exact ⟨a2.ops (by omega),by rw [a6 x hx];exact hc,fun j hj _=>a6 j hj,by rw [a3];exact Nat.le_refl _,by rw [a3];omega,by rw [a4];omega,rfl,rfl,rfl,rfl,rfl, .inl rfl,a5⟩
 ·rw [hp] at a2 a3 a4 a5 a6 a7
  dsimp only at a2 a3 a4 a5 a6 a7
  have hol:(cont S x).1.length=504:=by rw [← a8];exact a9
  have hlen:(updB R x f0 (((cont S x).1.drop f0).take d) ((b.drop f0).take d)).length=27 + d + d:=by rw [updB_len,cutl hol hfd,cutl hb hfd]
  obtain ⟨-,b2,b3,b4,b5,-⟩:=a2.app (updB R x f0 (((cont S x).1.drop f0).take d) ((b.drop f0).take d)) (37 + d) (by rw [hlen];omega) (by rw [hlen,a4];omega)
  obtain ⟨-,c2,c3,c4,c5,c6,gg,c7,c8,-⟩:=b2.page (x:=x) (by omega) hx
  rw [hp2] at c2 c3 c4 c5 c6 c7
  dsimp only at c2 c3 c4 c5 c6 c7
  have hgg:gg=g2:=by rw [hg2] at c7;injection c7 with e;exact e.symm
  subst hgg
  have hlast:endOf S1.L < endOf S2.L:=by rw [c3];show endOf S1.L < endOf (apL _ _ _);rw [b3,hlen];omega
  have hbig:=a2.bigd (by rw [a4];omega)
  obtain ⟨d1,d2⟩:=c2.set hg2 f0 ((b.drop f0).take d) (endOf S1.L) (by rw [cutl hb hfd];exact hfd) hlast (by omega)
  have hcx:(over gg.by_ f0 ((b.drop f0).take d))=b:=by
   have e1:gg.by_=(cont S x).1:=by
    have e2:gg.by_=(cont (⟨S1.D,apL S1.L (updB R x f0 (((cont S x).1.drop f0).take d) ((b.drop f0).take d)) ((37 + d:Nat):Int),S1.P⟩:St) x).1:=congrArg Prod.fst c8
    rw [e2]
    have e3:cont (⟨S1.D,apL S1.L (updB R x f0 (((cont S x).1.drop f0).take d) ((b.drop f0).take d)) ((37 + d:Nat):Int),S1.P⟩:St) x=cont S1 x:=rfl
    rw [e3,a6 x hx]
   rw [e1]
   exact hov
  have eE:endOf (setS S2 x (chF gg f0 ((b.drop f0).take d) (endOf S1.L))).L=endOf S.L + 29 + d + d:=by
   show endOf S2.L=_
   rw [c3]
   show endOf (apL _ _ _)=_
   rw [b3,hlen,a3]
   omega
  refine ⟨d1.ops (by omega),by rw [d2 x,if_pos rfl];exact hcx,fun j hj hne=> ?_,by rw [eE];omega,by rw [eE];omega, ?_,rfl,rfl,rfl,rfl,rfl, .inr a3, ?_⟩
  ·rw [d2 j,if_neg hne,c6 j hj]
   exact a6 j hj
  ·show _≤roomOf S2.L
   rw [c4]
   show _≤roomOf (apL _ _ _)
   rw [b4,hlen,a4]
   omega
  ·show S2.L.hd=_
   rw [c5]
   show (apL _ _ _).hd=_
   rw [b5,a5]
end
section
variable {w0 w w':World} {Z Z':Pk} {s n c f k:Nat} {S S1 S2:St} {R R' R2:Sr}
theorem sWrite_ex (h:StoAt w0 w Z s S R) (hr:inTxE S.D R=0) (hcn:R.count < 100000) (hd:S.D.dur.length≤4096) (x:Nat) (hx:(x:Int) < (S.D.dur.length:Int) - ((1 + R.count:Nat):Int)) (B:Option Addr) (cb:Nat) (F:St→Sr→Prop)
  (KB:∀W,StoAt w0 W Z s S R→Sfr Z s S.P w W→Calls Tryz.prog 37 #[.pointer (some ⟨s,0,none⟩), .int .i64 (x:Int), .slice B 504 cb] W (fun e w' =>∃S2 R2,F S2 R2∧SoPost w0 W Z s S.P (.int .i64 0) S2 R2 e w')):
  Calls Tryz.prog 12 #[.pointer (some ⟨s,0,none⟩), .int .i64 (x:Int), .slice B 504 cb] w (fun e w' =>∃S2 R2,F S2 R2∧SoPost w0 w Z s S.P (.int .i64 0) S2 R2 e w'):=by
 have KR:=hide (sintxE_any h)
 rw [hr,ready_of_in hr,seenR_0] at KR
 have HKB:=hide KB
 have KS:=hide (fun W=>sseen_same (s:=s) 0 (by decide) W)
 have KPG:=hide (fun W (hW:StoAt w0 W Z s S R)=>spages_any hW hcn hd)
 obtain ⟨pn,HPN⟩:∃pn:Int,Hid ((S.D.dur.length:Int) - ((1 + R.count:Nat):Int)=pn):=⟨_,hide rfl⟩
 rw [HPN.out] at KPG hx
 have h0:¬(x:Int) < 0:=by omega
 have h1:¬(x:Int)≥pn:=by omega
 clear h hr KB hcn hd hx
 go_enter Tryz.func12,Tryz.ntmps12
 go_wp2_with (first
  | (go_at_call 36;(with_reducible refine KR.out.mono ?_);rintro e2 w2 ⟨rfl,h2,hf2⟩;have H2:=hide h2;have HF2:=hide hf2;clear h2 hf2)
  | (go_at_call 17;(with_reducible refine (KPG.out w2 H2.out).mono ?_);rintro e5 w5 ⟨rfl,k5,hw5⟩;have HX5:Hid (Ext w2 w5):=hide (by rw [hw5];exact (Ext.refl _).drewN k5);have KB2:=hide (HKB.out w5 (H2.out.ext_ HX5.out) (HF2.out.trans (Sfr.ext HX5.out) (Pk.Later.refl _ _ _)));clear hw5)
  | (go_at_call 37;(with_reducible refine KB2.out.mono ?_);rintro e3 w3 ⟨S2,R2,hF,Z3,rfl,h3,hf3,hl3⟩;have HFF:=hide hF;have H3:=hide h3;have HF3:=hide hf3;have HL3:=hide hl3;clear hF h3 hf3 hl3)
  | (go_at_call 34;(with_reducible refine (KS.out w3).mono ?_);rintro e4 w4 ⟨rfl,hw4⟩;subst hw4))
 go_ret
 exact ⟨S2,R2,HFF.out,Z3,rfl,H3.out,(HF2.out.trans (Sfr.ext HX5.out) (Pk.Later.refl _ _ _)).trans HF3.out (Pk.Later.refl _ _ _),HL3.out.up (Nat.le_trans HF2.out.size HX5.out.size)⟩
theorem sv_write (h:StoAt w0 w Z s S R) (sv:Sv S n c f k) (hk:k + c + c + 8≤400000) (hm:n≤4096) (hT:Tab w0) (hin:inTxE S.D R=0) (hcnt:R.count=c) (x:Nat) (hx:x < n - (1 + c)) (hroom:1578≤roomOf S.L) (hnum:R.number < 18446744073709551616∧R.last < 18446744073709551616) (B:Option Addr) (cb:Nat) (bb:List UInt8) (hB:Rd w B bb) (hbl:bb.length=504) (hcb:504≤cb) (hBk:∀a,B=some a→a.block < w.heap.size∧¬Z.has S.P a.block∧a.block≠s):
  Calls Tryz.prog 12 #[.pointer (some ⟨s,0,none⟩), .int .i64 (x:Int), .slice B 504 cb] w (fun e w' =>∃S2 R2,WrD S R x bb S2 R2∧SoPost w0 w Z s S.P (.int .i64 0) S2 R2 e w'):=by
 obtain ⟨a1,a2,a3,a4,a5,a6,g,a7,a8,a9⟩:=sv.page (x:=x) (by omega) hx
 have hp:pageR S (x:Int)=(0,(pageR S (x:Int)).2):=by rw [← a1]
 have hgc:g.by_=(cont S x).1:=congrArg Prod.fst a8
 have hc4:=sv.fit.log.cn.2
 have hcn:=sv.cn
 have hst:=a2.st
 have htl:=a2.fit.tail
 have hcn2:=a2.cn
 refine sWrite_ex h hin (by rw [hcnt];omega) (by rw [sv.dur];exact hm) x (by rw [sv.dur,hcnt];omega) B cb (WrD S R x bb) fun W hW hf=> ?_
 have hB2:Rd W B bb:=rd_keepB hB fun a ha=>hf.other a.block (hBk a ha).1 (hBk a ha).2.1 (hBk a ha).2.2
 have hBk2:∀a,B=some a→a.block < W.heap.size∧¬Z.has S.P a.block∧a.block≠s:=fun a ha=>⟨Nat.lt_of_lt_of_le (hBk a ha).1 hf.size,(hBk a ha).2⟩
 have kk:=swrite_go (c2:=k + c + 4) hW sv.fit (by omega) hT x hp g a7 a9 B cb bb hB2 hbl hcb hBk2 hnum (by omega) a2.fit.log (by omega) (by rw [hcn2] at htl;omega) (by omega) (a2.hall (by omega) hx (by rw [a4];exact hroom) R g.by_ bb a9 hbl)
 refine kk.mono fun e w' hh=> ?_
 rcases hh with ⟨f0,hdf,hpo⟩ | ⟨f0,d,S2,g2,hd,hfd,hdf,hp2,hg2,hpo⟩
 ·exact ⟨_,_, .inl ⟨rfl,hp,by rw [← hgc];exact dif_same a9 hbl hdf⟩,hpo⟩
 ·rw [hgc] at hp2 hdf
  exact ⟨_,_, .inr ⟨_,f0,d,S2,g2,hp,hd,hfd,dif_over (by rw [← hgc];exact a9) hbl hdf,hp2,hg2,rfl,rfl⟩,hpo⟩
theorem sv_read (h:StoAt w0 w Z s S R) (sv:Sv S n c f k) (hk:k + c + 4≤400000) (hT:Tab w0) (hr:readyE S.D R=0) (x:Nat) (hx:x < n - (1 + c)):
  Calls Tryz.prog 11 #[.pointer (some ⟨s,0,none⟩), .int .i64 (x:Int)] w (fun e w' =>∃A cc,Rd w' A (cont S x).1∧SoPost w0 w Z s S.P (.tuple #[.slice A 504 cc, .int .i64 0]) (pageR S (x:Int)).2 R e w'):=by
 obtain ⟨a1,a2,a3,a4,a5,a6,g,a7,a8,a9⟩:=sv.page (x:=x) hk hx
 have hp:pageR S (x:Int)=(0,(pageR S (x:Int)).2):=by rw [← a1]
 refine (sread_ok h sv.fit (by omega) hT hr (x:Int) hp).mono fun e w' hh=> ?_
 obtain ⟨g2,A,cc,hg2,hrd,hpo⟩:=hh
 rw [Int.toNat_natCast,a7] at hg2
 injection hg2 with hg2
 subst hg2
 exact ⟨A,cc,by rw [← show g.by_=(cont S x).1 from congrArg Prod.fst a8];exact hrd,hpo⟩
end
section
variable {S S1:St} {n fr c i:Nat} {l:Nat→List UInt8×Nat} {pins:Nat→Nat} {f:Fm}
theorem wayP_at (P:Pl) (i s:Nat):∀j x,(wayP P i s).W j=some x→P.W j=some x∨(j=i∧x=s):=by
 unfold wayP
 split
 ·exact fun j x h=> .inl h
 ·intro j x h
  have h:upM P.W i (some s) j=some x:=h
  by_cases e:j=i
  ·subst e
   rw [upM_same] at h
   injection h with h
   exact .inr ⟨rfl,h.symm⟩
  ·rw [upM_other _ _ e] at h
   exact .inl h
theorem storeR_W (g:Good S) (ft:S.Fit c) (hc:c≤400000) (hf:S.P.H i=some f) (hch:f.ch=true):∀j x,(storeR S i f).2.P.W j=some x→S.P.W j=some x∨(j=i∧x=f.since):=by
 obtain ⟨a1,-⟩:=aheadR_good g ft hf hch
 have h0:=(storeR_good g ft hc hf hch).1
 have hp:(storeR S i f).2.P=wayP (settleP (storeR S i f).2.L S.P) i f.since:=by
  unfold storeR at h0 ⊢
  rw [a1,if_neg (fun h=>h rfl)] at h0 ⊢
  by_cases h2:(putR (aheadR S f).2 i f).1≠0
  ·rw [if_pos h2] at h0;exact absurd h0 h2
  ·rw [if_neg h2];rfl
 intro j x hj
 rw [hp] at hj
 rcases wayP_at _ _ _ j x hj with h | h
 ·exact .inl ((settleP_is _ _).2.2.2.2.2.2.2.1 j x h)
 ·exact .inr h
end
section
variable {S S1:St} {n fr c i:Nat} {l:Nat→List UInt8×Nat} {pins:Nat→Nat} {f:Fm}
theorem storeR_way2 (g:Good S) (wy:Way S) (ft:S.Fit c) (hc:c≤400000) (hf:S.P.H i=some f) (hch:f.ch=true):(storeR S i f).2.P.m≠0∧¬(storeR S i f).2.P.sure < (storeR S i f).2.L.sure:=by
 obtain ⟨a1,-⟩:=aheadR_good g ft hf hch
 have h0:=(storeR_good g ft hc hf hch).1
 have hp:(storeR S i f).2.P=wayP (settleP (storeR S i f).2.L S.P) i f.since:=by
  unfold storeR at h0 ⊢
  rw [a1,if_neg (fun h=>h rfl)] at h0 ⊢
  by_cases h2:(putR (aheadR S f).2 i f).1≠0
  ·rw [if_pos h2] at h0;exact absurd h0 h2
  ·rw [if_neg h2];rfl
 have hs:=settleP_cnt (L:=(storeR S i f).2.L) wy.cnt
 exact ⟨by rw [hp];exact wayP_m hs.1 _ _,by rw [hp,(wayP_is _ _ _).2.2.2.2.2.2.2.2];exact hs.2⟩
theorem stAll_more:∀(zs:List Nat) (S:St) (c:Nat),Good S→Way S→S.Fit c→c + zs.length * (S.L.hd.cn + 3)≤400000→zs.Nodup→(∀i,i∈zs→∃f,S.P.H i=some f∧f.ch=true)→
  (stAll zs S).2.P.n=S.P.n∧(stAll zs S).2.P.frames=S.P.frames∧(stAll zs S).2.L.hd=S.L.hd∧(stAll zs S).2.L.held=S.L.held∧endOf (stAll zs S).2.L=endOf S.L∧S.L.sure≤(stAll zs S).2.L.sure∧
  (∀j x,(stAll zs S).2.P.W j=some x→S.P.W j=some x∨∃f,S.P.H j=some f∧f.ch=true∧x=f.since)∧(zs≠ []→(stAll zs S).2.P.m≠0∧¬(stAll zs S).2.P.sure < (stAll zs S).2.L.sure)
 | [],S,c,g,wy,ft,_,_,_=>⟨rfl,rfl,rfl,rfl,rfl,Nat.le_refl _,fun j x h=> .inl h,fun h=>absurd rfl h⟩
 | i::zs,S,c,g,wy,ft,hc,hn,hz=>by
  obtain ⟨f,hf,hch⟩:=hz i List.mem_cons_self
  rw [List.length_cons,Nat.succ_mul] at hc
  have hc1:c≤400000:=by omega
  obtain ⟨s1,s2,s3,s4,s5,s6,s7,s8⟩:=storeR_good g ft hc1 hf hch
  obtain ⟨e1,e2,e3,e4,e5,e6,e7⟩:=storeR_P S i f
  obtain ⟨f1,f2⟩:=storeR_fit ft hc1 hf
  have hn2:=hn
  rw [List.nodup_cons] at hn2
  have ih:=stAll_more zs (storeR S i f).2 (c + S.L.hd.cn + 3) (storeR_Good g ft hc1 hf hch) (storeR_way g wy ft hc1 hf hch) f1 (by rw [e7];omega) hn2.2 (fun j hj=>by rw [e1];exact hz j (List.mem_cons_of_mem _ hj))
  obtain ⟨i1,i2,i3,i4,i5,i6,i7,i8⟩:=ih
  rw [stAll_cons hf,s1,if_neg (fun h=>h rfl)]
  refine ⟨by rw [i1,e2],by rw [i2,e5],by rw [i3,e7],by rw [i4];exact storeR_held S i f,by rw [i5,s3],Nat.le_trans s4 i6,fun j x h=> ?_,fun _=> ?_⟩
  ·rcases i7 j x h with h1 | ⟨f',h1,h2,h3⟩
   ·rcases storeR_W g ft hc1 hf hch j x h1 with h4 | ⟨h4,h5⟩
    ·exact .inl h4
    ·rw [h4];exact .inr ⟨f,hf,hch,h5⟩
   ·rw [e1] at h1
    exact .inr ⟨f',h1,h2,h3⟩
  ·cases zs with
   | nil=>exact storeR_way2 g wy ft hc1 hf hch
   | cons a zs=>exact i8 (by simp)
def Clean (S:St):Prop:=(∀i,S.P.W i=none)∧∀i f,S.P.H i=some f→f.ch=false
end
section
variable {S S1 S2:St} {n c f k x i:Nat} {g:Fm} {H:List UInt8}
theorem Sv.settle (h:Sv S n c f k):Sv { S with P:=settleP S.L S.P } n c f k∧∀j,cont { S with P:=settleP S.L S.P } j=cont S j:=by
 obtain ⟨e1,e2,e3,e4,e5,e6,e7,e8,e9⟩:=settleP_is S.L S.P
 have g:=h.good
 have hw:=settleP_cnt (L:=S.L) h.way.cnt
 have hp:=h.fit.pool
 refine ⟨⟨⟨g.awk,by show _≤(settleP S.L S.P).at_;rw [e3];exact g.apart,fun j f hj hc=> ?_,fun j f hj=> ?_,fun j hj=> ?_,g.sure,g.pos⟩,⟨?_,hw.1⟩,⟨h.fit.bd,h.fit.log,⟨by rw [e3,e4];exact hp.at_,hp.max,by rw [e4];exact hp.pages,by rw [e5];exact hp.frames,fun j f hj=> ?_,fun i j f g hi hj hu=> ?_,by rw [e2,e5];exact hp.cnt,fun i s hi=>hp.way i s (e8 i s hi),by rcases e9 with e | e;rw [e];exact hp.sure;rw [e];have:=h.fit.log.sure;omega⟩,h.fit.pen,h.fit.ops,h.fit.tail,h.fit.sure,by show (settleP S.L S.P).asked≤k;rw [e6];exact h.fit.asked,Nat.le_trans e7 h.fit.wcnt⟩,⟨fun i g2 hg2=> ?_, ?_⟩,by rw [e4];exact h.pages,by rw [e5];exact h.frames,by rw [e3];exact h.at_,h.dur,h.cn,h.st⟩,fun j=> ?_⟩
 ·have hj:(settleP S.L S.P).H j=some f:=hj
  rw [e1] at hj
  show _=((frameB (S.D.at ((settleP S.L S.P).at_ + j))).by_,(frameB (S.D.at ((settleP S.L S.P).at_ + j))).last)
  rw [e3]
  exact g.same j f hj hc
 ·have hj:(settleP S.L S.P).H j=some f:=hj
  rw [e1] at hj
  exact g.ahead j f hj
 ·have hj:j < (settleP S.L S.P).pages:=hj
  rw [e4] at hj
  show (frameB (S.D.at ((settleP S.L S.P).at_ + j))).last < _∨_
  rw [e3]
  exact g.wal j hj
 ·rcases h.way.pen with hp | ⟨hp1,hp2⟩
  ·exact .inl hp
  ·right
   have e:settleP S.L S.P=S.P:=by unfold settleP;rw [if_neg hp2]
   show (settleP S.L S.P).m≠0∧¬(settleP S.L S.P).sure < _
   rw [e]
   exact ⟨hp1,hp2⟩
 ·have hj:(settleP S.L S.P).H j=some f:=hj
  rw [e1] at hj
  obtain ⟨p1,p2⟩:=hp.page j f hj
  exact ⟨by show j < (settleP S.L S.P).pages;rw [e4];exact p1,p2.by_,p2.last,p2.hi,p2.since,p2.pins,by show f.used≤(settleP S.L S.P).asked;rw [e6];exact p2.used⟩
 ·have hi:(settleP S.L S.P).H i=some f:=hi
  have hj:(settleP S.L S.P).H j=some g:=hj
  rw [e1] at hi hj
  exact hp.one i j f g hi hj hu
 ·have hg2:(settleP S.L S.P).H i=some g2:=hg2
  rw [e1] at hg2
  exact h.can.1 i g2 hg2
 ·show (settleP S.L S.P).n < (settleP S.L S.P).frames∨∃i g,(settleP S.L S.P).H i=some g
  rw [e1,e2,e5]
  exact h.can.2
 ·unfold cont
  show (match (settleP S.L S.P).H j with | some f=>(f.by_,f.last) | none=>((frameB (S.D.at ((settleP S.L S.P).at_ + j))).by_,(frameB (S.D.at ((settleP S.L S.P).at_ + j))).last))=_
  rw [e1,e3]
  all_goals rfl
theorem storeR_still {g2:Fm} (g:Good S) (hs:S.L.sure=endOf S.L) (hf:S.P.H i=some g2) (hok:g2.by_.length=504) (hlt:S.P.at_ + i < S.D.dur.length):(storeR S i g2).2.L=S.L∧∀j,j≠S.P.at_ + i→(storeR S i g2).2.D.at j=S.D.at j:=by
 have e:aheadR S g2=(0,S):=by
  unfold aheadR
  rw [if_neg (by rw [hs];exact Nat.not_le.2 (g.ahead i g2 hf).1)]
 unfold storeR
 rw [e,if_neg (fun hh=>hh rfl)]
 have k:∀j,j≠S.P.at_ + i→(putR S i g2).2.D.at j=S.D.at j:=fun j hj=>by
  show (wD S.D ((S.P.at_ + i:Nat):Int) (secB g2)).at j=_
  rw [rg_at_wD g.awk (S.P.at_ + i) (secB g2) hlt (secB_len hok) j,if_neg hj]
 by_cases h0:(putR S i g2).1≠0
 ·rw [if_pos h0]
  exact ⟨rfl,k⟩
 ·rw [if_neg h0]
  exact ⟨rfl,k⟩
theorem stAll_still:∀(zs:List Nat) (S:St) (c:Nat),Good S→Way S→S.Fit c→c + zs.length * (S.L.hd.cn + 3)≤400000→S.L.sure=endOf S.L→(∀i,i∈zs→∃f,S.P.H i=some f∧f.ch=true)→
  (stAll zs S).2.L=S.L∧∀j,j < S.P.at_→(stAll zs S).2.D.at j=S.D.at j
 | [],S,c,_,_,_,_,_,_=>⟨rfl,fun _ _=>rfl⟩
 | i::zs,S,c,g,wy,ft,hc,hs,hz=>by
  obtain ⟨f,hf,hch⟩:=hz i List.mem_cons_self
  rw [List.length_cons,Nat.succ_mul] at hc
  have hc1:c≤400000:=by omega
  obtain ⟨s1,s2,s3,s4,s5,s6,s7,s8⟩:=storeR_good g ft hc1 hf hch
  obtain ⟨e1,e2,e3,e4,e5,e6,e7⟩:=storeR_P S i f
  obtain ⟨f1,f2⟩:=storeR_fit ft hc1 hf
  obtain ⟨p1,p2⟩:=ft.pool.page i f hf
  obtain ⟨t1,t2⟩:=storeR_still g hs hf p2.by_ (by have:=ft.pool.at_;omega)
  have ih:=stAll_still zs (storeR S i f).2 (c + S.L.hd.cn + 3) (storeR_Good g ft hc1 hf hch) (storeR_way g wy ft hc1 hf hch) f1 (by rw [e7];omega) (by rw [t1];exact hs) (fun j hj=>by rw [e1];exact hz j (List.mem_cons_of_mem _ hj))
  rw [t1,e3] at ih
  rw [stAll_cons hf,s1,if_neg (fun h=>h rfl)]
  exact ⟨ih.1,fun j hj=>by rw [ih.2 j hj,t2 j (by omega)]⟩
theorem Sv.flush (h:Sv S n c f k) {zs:List Nat} (hz:ChL S.P zs) (hk:k + zs.length * (c + 3)≤300000):(pflR zs S).1=0∧Sv (pflR zs S).2 n c f (k + zs.length * (c + 3) + 1)∧endOf (pflR zs S).2.L=endOf S.L∧Clean (pflR zs S).2∧(pflR zs S).2.D.pen= []∧(∀j,j < n - (1 + c)→cont (pflR zs S).2 j=cont S j)∧(pflR zs S).2.L.hd=S.L.hd∧(pflR zs S).2.L.held=S.L.held∧(S.L.sure=endOf S.L→(pflR zs S).2.L=S.L∧∀j,j < S.P.at_→(pflR zs S).2.D.at j=S.D.at j)∧(∀i,(pflR zs S).2.P.H i=none↔S.P.H i=none)∧(pflR zs S).2.P.m=0:=by
 have hcn:=h.cn
 have hzc:∀i,i∈zs→∃f,S.P.H i=some f∧f.ch=true:=fun i hi=>(hz.mem i).1 hi
 have hcc:k + zs.length * (S.L.hd.cn + 3)≤400000:=by rw [hcn];omega
 obtain ⟨i1,i2,i3,i4,i5,i6,i7,i8,i9,i10⟩:=stAll_good zs S k h.good h.way h.fit hcc hz.nodup hzc
 obtain ⟨m1,m2,m3,m4,m5,m6,m7,m8⟩:=stAll_more zs S k h.good h.way h.fit hcc hz.nodup hzc
 obtain ⟨w1,w2,w3,w4,w5,w6⟩:=pflR_good h.good h.way h.fit hcc hz
 have hstill:=fun hs=>stAll_still zs S k h.good h.way h.fit hcc hs hzc
 rw [hcn] at i7
 have hS1:Sv (stAll zs S).2 n c f (k + zs.length * (c + 3))∧∀j,j < n - (1 + c)→cont (stAll zs S).2 j=cont S j:=by
  refine ⟨⟨i2,i3,i7,⟨fun i g2 hg2=>h.can.1 i g2 (by rw [← i4];exact hg2),by rw [m1,m2,i4];exact h.can.2⟩,by rw [i6];exact h.pages,by rw [m2];exact h.frames,by rw [i5];exact h.at_,by rw [i8];exact h.dur,by rw [m3];exact h.cn,by rw [m3];exact ⟨h.st.1,Nat.le_trans h.st.2 m6⟩⟩,fun j hj=> ?_⟩
  unfold cont
  rw [i4,i5]
  cases hH:S.P.H j with
  | some f=>rfl
  | none=>
   have hnz:j∉zs:=fun hh=>by
    obtain ⟨f,hf,-⟩:=hzc j hh
    rw [hH] at hf;cases hf
   simp only
   rw [i10 j (by rw [h.pages];exact hj) hnz]
 refine ⟨w1, ?_⟩
 unfold pflR at w1 w2 ⊢
 rw [i1,if_neg (fun hh=>hh rfl)] at w1 w2 ⊢
 generalize stAll zs S=R at *
 obtain ⟨r,T⟩:=R
 simp only at i1 i2 i3 i4 i5 i6 i7 i8 i9 i10 m1 m2 m3 m4 m5 m6 m7 m8 hS1 w1 w2 hstill ⊢
 obtain ⟨hS1,hC1⟩:=hS1
 by_cases hm:(settleP T.L T.P).m=0
 ·rw [if_pos hm] at w2 ⊢
  obtain ⟨hp,hpc⟩:=hS1.settle
  have hze:zs= []:=by
   cases zs with
   | nil=>rfl
   | cons a zs=>
    exfalso
    obtain ⟨q1,q2⟩:=m8 (by simp)
    unfold settleP at hm
    rw [if_neg q2] at hm
    exact q1 hm
  refine ⟨hp.ops (Nat.le_succ _),m5,⟨fun i=> ?_,fun i f hf=> ?_⟩,w2,fun j hj=>(hpc j).trans (hC1 j hj),m3,m4,hstill,fun i=> ?_,hm⟩
  ·cases hW:(settleP T.L T.P).W i with
   | none=>rfl
   | some s=>exact absurd hm (hp.way.cnt i s hW)
  ·have hf:(settleP T.L T.P).H i=some f:=hf
   rw [(settleP_is T.L T.P).1,i4] at hf
   cases hc:f.ch with
   | false=>rfl
   | true=>
    have:=(hz.mem i).2 ⟨f,hf,hc⟩
    rw [hze] at this
    cases this
  ·show (settleP T.L T.P).H i=none↔_
   rw [(settleP_is T.L T.P).1,i4]
 ·have hE:sE T.D=0:=awk_sync i2.awk
  rw [if_neg hm,hE,if_neg (fun hh=>hh rfl)] at w2 ⊢
  obtain ⟨e1,e2,e3,e4,e5,e6,e7,e8,e9⟩:=settleP_is T.L T.P
  have hb:=sD_bd i7.bd (by have:=i7.ops;omega)
  have hpo:=i7.pool
  have hlen:T.D.dur.length=n:=hS1.dur
  have hat0:∀j,j < n→(sD T.D).at j=T.D.at j:=fun j hj=>at_sD i2.awk _ (by rw [hlen];exact hj)
  have hat:∀j,j < n - (1 + c)→(sD T.D).at (1 + c + j)=T.D.at (1 + c + j):=fun j hj=>hat0 _ (by omega)
  obtain ⟨P2,hP2⟩:∃P2,noCh zs { settleP T.L T.P with W:=fun _=>none,m:=0 } =P2:=⟨_,rfl⟩
  have hH:∀j,P2.H j=(S.P.H j).map fun f=>if j∈zs then { f with ch:=false } else f:=fun j=>by
   rw [← hP2]
   show ((settleP T.L T.P).H j).map _=_
   rw [e1,i4]
  have hHs:∀j f,P2.H j=some f→∃f0,S.P.H j=some f0∧f.ch=false∧f.by_=f0.by_∧f.last=f0.last∧f.hi=f0.hi∧f.pins=f0.pins∧f.used=f0.used∧f.since=f0.since:=fun j f hf=>by
   rw [hH j] at hf
   cases h0:S.P.H j with
   | none=>rw [h0] at hf;cases hf
   | some f0=>
    rw [h0] at hf
    have hf:(if j∈zs then { f0 with ch:=false } else f0)=f:=Option.some.inj hf
    refine ⟨f0,rfl, ?_⟩
    rw [← hf]
    by_cases hjz:j∈zs
    ·rw [if_pos hjz]
     exact ⟨rfl,rfl,rfl,rfl,rfl,rfl,rfl⟩
    ·rw [if_neg hjz]
     refine ⟨?_,rfl,rfl,rfl,rfl,rfl,rfl⟩
     cases hc:f0.ch with
     | false=>rfl
     | true=>exact absurd ((hz.mem j).2 ⟨f0,h0,hc⟩) hjz
  have hr:P2.at_=1 + c∧P2.pages=n - (1 + c)∧P2.frames=f∧P2.n=S.P.n∧P2.m=0∧P2.asked=T.P.asked∧(∀i,P2.W i=none)∧(P2.sure=T.P.sure∨P2.sure=T.L.sure):=by
   rw [← hP2]
   exact ⟨by show (settleP T.L T.P).at_=_;rw [e3];exact hS1.at_,by show (settleP T.L T.P).pages=_;rw [e4];exact hS1.pages,by show (settleP T.L T.P).frames=_;rw [e5];exact hS1.frames,by show (settleP T.L T.P).n=_;rw [e2];exact m1,rfl,by show (settleP T.L T.P).asked=_;exact e6,fun _=>rfl,e9⟩
  obtain ⟨r1,r2,r3,r4,r5,r6,r7,r8⟩:=hr
  rw [hP2] at w2 ⊢
  have hfrm:∀j f0,S.P.H j=some f0→j < n - (1 + c)∧(f0.by_,f0.last)=((frameB (T.D.at (1 + c + j))).by_,(frameB (T.D.at (1 + c + j))).last):=fun j f0 h0=>by
   obtain ⟨p1,p2⟩:=h.fit.pool.page j f0 h0
   have hjn:j < n - (1 + c):=by rw [← h.pages];exact p1
   refine ⟨hjn, ?_⟩
   obtain ⟨fb1,fb2⟩:=frameB_sec p2.by_ p2.last
   cases hc:f0.ch with
   | true=>
    have h1:=i9 j f0 ((hz.mem j).2 ⟨f0,h0,hc⟩) h0
    rw [h.at_] at h1
    rw [h1,fb1,fb2]
   | false=>
    have h1:=i2.same j f0 (by rw [i4];exact h0) hc
    rw [hS1.at_] at h1
    exact h1
  have hpg:=hpo.pages
  have hfr:=hpo.frames
  have hcnt:=h.fit.pool.cnt
  have hat1:=hpo.at_
  rw [hS1.pages] at hpg
  rw [hS1.frames] at hfr
  rw [h.frames] at hcnt
  rw [hS1.pages,hS1.at_] at hat1
  refine ⟨⟨⟨awk_sD i2.awk,by show _≤P2.at_;rw [r1];have:=hS1.good.apart;rw [hS1.at_] at this;exact this,fun j f hf hc' => ?_,fun j f hf=> ?_,fun j hj=> ?_,i2.sure,i2.pos⟩,⟨.inl w2,fun i s hi=>by rw [r7 i] at hi;cases hi⟩,⟨hb.1,⟨i7.log.hd,i7.log.cn,by show _≤(sD T.D).dur.length;rw [hb.2.2.2];exact i7.log.at_,i7.log.sure,i7.log.tail,i7.log.held⟩,⟨by show P2.at_ + P2.pages≤(sD T.D).dur.length;rw [hb.2.2.2,r1,r2];exact hat1,by show (sD T.D).dur.length≤_;rw [hb.2.2.2];exact hpo.max,by rw [r2];exact hpg,by rw [r3];exact hfr,fun j f hf=> ?_,fun i j f g hi hj hu=> ?_,by rw [r4,r3];exact hcnt,(fun i s hi=>by rw [r7 i] at hi;cases hi),by rcases r8 with e | e;rw [e];exact hpo.sure;rw [e];have:=i7.log.sure;omega⟩,by show (sD T.D).pen.length≤_;rw [w2];exact Nat.zero_le _,by show (sD T.D).ops≤_;have:=i7.ops;omega,i7.tail,by show T.L.sure≤_;have:=i7.sure;omega,by show P2.asked≤_;rw [r6];have:=i7.asked;omega,by show P2.m≤_;rw [r5];exact Nat.zero_le _⟩,⟨fun i g2 hg2=> ?_, ?_⟩,r2,r3,r1,by show (sD T.D).dur.length=_;rw [hb.2.2.2];exact hS1.dur,hS1.cn,hS1.st⟩,m5,⟨r7,fun i f hf=> ?_⟩,w2,fun j hj=> ?_,m3,m4,fun hs=>⟨(hstill hs).1,fun j hj=> ?_⟩,fun i=> ?_,r5⟩
  ·obtain ⟨f0,h0,-,h1,h2,-⟩:=hHs j f hf
   obtain ⟨hjn,h3⟩:=hfrm j f0 h0
   show _=((frameB ((sD T.D).at (P2.at_ + j))).by_,(frameB ((sD T.D).at (P2.at_ + j))).last)
   rw [r1,hat j hjn,h1,h2]
   exact h3
  ·obtain ⟨f0,h0,hc0,h1,h2,h3,-⟩:=hHs j f hf
   show f.hi < endOf T.L∧_
   rw [h3]
   exact ⟨(i2.ahead j f0 (by rw [i4];exact h0)).1,fun hh=>by rw [hc0] at hh;cases hh⟩
  ·have hjn:j < n - (1 + c):=by rw [← r2];exact hj
   show (frameB ((sD T.D).at (P2.at_ + j))).last < T.L.sure∨_
   rw [r1,hat j hjn]
   have h1:=i2.wal j (by rw [hS1.pages];exact hjn)
   rw [hS1.at_] at h1
   exact h1
  ·obtain ⟨f0,h0,hc0,h1,h2,h3,h4,h5,h6⟩:=hHs j f hf
   obtain ⟨p1,p2⟩:=h.fit.pool.page j f0 h0
   obtain ⟨p3,p4⟩:=hpo.page j f0 (by rw [i4];exact h0)
   exact ⟨by rw [r2];rw [← h.pages];exact p1,by rw [h1];exact p2.by_,by rw [h2];exact p2.last,by rw [h3];exact p2.hi,by rw [h6];exact p2.since,by rw [h4];exact p2.pins,by rw [h5,r6];exact p4.used⟩
  ·obtain ⟨f0,h0,-,-,-,-,-,h5,-⟩:=hHs i f hi
   obtain ⟨g0,k0,-,-,-,-,-,k5,-⟩:=hHs j g hj
   exact h.fit.pool.one i j f0 g0 h0 k0 (by rw [← h5,← k5];exact hu)
  ·obtain ⟨f0,h0,-,-,-,-,h4,-⟩:=hHs i g2 hg2
   rw [h4]
   exact h.can.1 i f0 h0
  ·show P2.n < P2.frames∨∃i g,P2.H i=some g
   rw [r4,r3]
   rcases h.can.2 with h1 | ⟨i,g,h1⟩
   ·rw [h.frames] at h1
    exact .inl h1
   ·exact .inr ⟨i,_,by rw [hH i,h1];rfl⟩
  ·obtain ⟨f0,h0,hc0,-⟩:=hHs i f hf
   exact hc0
  ·rw [← hC1 j hj]
   unfold cont
   show (match P2.H j with | some f=>(f.by_,f.last) | none=>((frameB ((sD T.D).at (P2.at_ + j))).by_,(frameB ((sD T.D).at (P2.at_ + j))).last))=_
   rw [r1,hat j hj,hH j,i4,hS1.at_]
   cases S.P.H j with
   | none=>rfl
   | some f0=>
    show ((if j∈zs then { f0 with ch:=false } else f0).by_,(if j∈zs then { f0 with ch:=false } else f0).last)=(f0.by_,f0.last)
    split <;> rfl
  ·show (sD T.D).at j=_
   rw [hat0 j (by rw [h.at_] at hj;omega)]
   exact (hstill hs).2 j hj
  ·show P2.H i=none↔_
   rw [hH i]
   cases S.P.H i <;> simp
theorem Rg.elsewhere {D D2:Dk} {L:Lg} (h:Rg D L H) (h1:Awk D2) (h2:D2.pen= []) (h3:Bd D2) (h4:D2.dur.length=D.dur.length) (h5:∀j,j < L.at_ + 1 + L.hd.cn→D2.at j=D.at j):Rg D2 L H:=by
 obtain ⟨ep,hd⟩:=h.dur
 have hc:=h.cn
 refine ⟨h1,h2,h3,h.hd,h.cn,by rw [h4];exact h.at_,h.tail,h.sure,h.st,h.fs,h.ck,h.held,h.ring,h.big,h.epo,by rw [h5 _ (by omega)];exact h.head,ep,hd.same h.on h1.1 h4 rfl rfl rfl rfl rfl (fun a=>(h.sec a).1) fun a=>h5 _ ?_⟩
 have:=Nat.mod_lt (a / 480) (show 0 < L.hd.cn by omega)
 unfold secOf
 omega
theorem Sv.mark (h:Sv S n c f k) (rg:Rg S.D S.L H) (hk:k≤300000) (rs more:List (List UInt8)) (pl:Nat) (hr:∀p∈rs,RecOk p) (hH:H.drop S.L.hd.fi=recsB (rs ++ more)) (hpl:pl=S.L.hd.fi + (recsB rs).length) (hs:pl≤S.L.sure):
  mkE S.D S.L 0 pl=0∧Sv ⟨mkD S.D S.L 0 pl,mkL S.D S.L 0 pl,S.P⟩ n c f (k + 2)∧Rg (mkD S.D S.L 0 pl) (mkL S.D S.L 0 pl) H∧(mkL S.D S.L 0 pl).hd= { S.L.hd with st:=pl,fi:=pl,ck:=0,old:=mkO S.L pl } ∧(mkL S.D S.L 0 pl).sure=S.L.sure∧∀j,j < n - (1 + c)→cont ⟨mkD S.D S.L 0 pl,mkL S.D S.L 0 pl,S.P⟩ j=cont S j:=by
 have ho:=h.fit.ops
 obtain ⟨g1,g2,g3,g4,g5,g6,g7⟩:=rg.mark (by omega) rs more pl hr hH hpl hs
 have hg:=h.good
 have hend:endOf (mkL S.D S.L 0 pl)=endOf S.L:=by rw [g2.end_,rg.end_]
 have hap:=hg.apart
 have hfar:∀j,j < n - (1 + c)→(mkD S.D S.L 0 pl).at (S.P.at_ + j)=S.D.at (S.P.at_ + j):=fun j hj=>mk_far rg (by omega) 0 pl _ (by rw [h.at_,h.dur];omega) (by omega)
 have hpool:=h.fit.pool
 refine ⟨g1,⟨⟨g2.awk,by show (mkL S.D S.L 0 pl).at_ + 1 + (mkL S.D S.L 0 pl).hd.cn≤_;rw [g5,g3];exact hap,fun i f hf hc=> ?_,fun i f hf=> ?_,fun j hj=> ?_,by show (mkL S.D S.L 0 pl).sure≤endOf (mkL S.D S.L 0 pl);rw [hend,g4];exact hg.sure,by show 0 < (mkL S.D S.L 0 pl).sure;rw [g4];exact hg.pos⟩,⟨.inl g2.pen,h.way.cnt⟩,⟨g2.bd,g2.ok,by show S.P.Ok (mkD S.D S.L 0 pl).dur.length;rw [g7];exact hpool,by show (mkD S.D S.L 0 pl).pen.length≤_;rw [g2.pen];exact Nat.zero_le _,by show (mkD S.D S.L 0 pl).ops≤_;omega,g2.tail_len,by show (mkL S.D S.L 0 pl).sure≤_;rw [g4];have:=h.fit.sure;omega,by have:=h.fit.asked;show S.P.asked≤_;omega,by have:=h.fit.wcnt;show S.P.m≤_;omega⟩,h.can,h.pages,h.frames,h.at_,by show (mkD S.D S.L 0 pl).dur.length=n;rw [g7];exact h.dur,by show (mkL S.D S.L 0 pl).hd.cn=c;rw [g3];exact h.cn, ?_⟩,g2,g3,g4,fun j hj=> ?_⟩
 ·have hi:i < n - (1 + c):=by rw [← h.pages];exact (hpool.page i f hf).1
  show _=((frameB ((mkD S.D S.L 0 pl).at (S.P.at_ + i))).by_,(frameB ((mkD S.D S.L 0 pl).at (S.P.at_ + i))).last)
  rw [hfar i hi]
  exact hg.same i f hf hc
 ·show f.hi < endOf (mkL S.D S.L 0 pl)∧_
  rw [hend]
  exact hg.ahead i f hf
 ·have hj:j < n - (1 + c):=by rw [← h.pages];exact hj
  show (frameB ((mkD S.D S.L 0 pl).at (S.P.at_ + j))).last < (mkL S.D S.L 0 pl).sure∨_
  rw [hfar j hj,g4]
  exact hg.wal j (by rw [h.pages];exact hj)
 ·show (mkL S.D S.L 0 pl).hd.st < _∧(mkL S.D S.L 0 pl).hd.st≤(mkL S.D S.L 0 pl).sure
  rw [g3,g4]
  have h1:=rg.sure
  have h2:=rg.big
  exact ⟨by show pl < _;omega,hs⟩
 ·unfold cont
  show (match S.P.H j with | some f=>_ | none=>((frameB ((mkD S.D S.L 0 pl).at (S.P.at_ + j))).by_,(frameB ((mkD S.D S.L 0 pl).at (S.P.at_ + j))).last))=_
  rw [hfar j hj]
  all_goals rfl
end
def plL (p0:Nat) (l:List (List UInt8)) (j:Nat):Nat:=p0 + (recsB (l.take j)).length
def dfR:Rec:=⟨0,0,0,0,0, [], [],0, [],false⟩
def rcL (rs:List Rec) (j:Nat):Rec:=rs.getD j dfR
structure PlainR (r:Rec):Prop where
 k:1≤r.k∧r.k≤5
 tx:∃t:Nat,r.tx=(t:Int)
 pg:∃p:Nat,r.pg=(p:Int)∧p < 100000
 off:∃o:Nat,r.off=(o:Int)∧o + r.af.length≤504
structure Rcs (l:List (List UInt8)) (rs:List Rec):Prop where
 len:rs.length=l.length
 ok:∀j,j < l.length→RecOk (l.getD j [])∧decV (l.getD j [])=(0,some (rcL rs j))∧PlainR (rcL rs j)
theorem plL_zero (p0:Nat) (l:List (List UInt8)):plL p0 l 0=p0:=rfl
theorem take_snoc {l:List (List UInt8)} {j:Nat} (h:j < l.length):l.take (j + 1)=l.take j ++ [l.getD j []]:=by
 rw [List.take_add_one,List.getD_eq_getElem?_getD,List.getElem?_eq_getElem h]
 rfl
theorem plL_succ (p0:Nat) {l:List (List UInt8)} {j:Nat} (h:j < l.length):plL p0 l (j + 1)=plL p0 l j + 2 + (l.getD j []).length:=by
 unfold plL
 rw [take_snoc h,recsB_app,List.length_append,recsB_cons,recsB_nil,List.append_nil,frm_len]
 omega
theorem plL_end (p0:Nat) (l:List (List UInt8)):plL p0 l l.length=p0 + (recsB l).length:=by
 unfold plL
 rw [List.take_length]
theorem plL_mono (p0:Nat) (l:List (List UInt8)) (j:Nat) (h:j≤l.length):plL p0 l j≤plL p0 l l.length:=by
 unfold plL
 have e:recsB l=recsB (l.take j) ++ recsB (l.drop j):=by rw [← recsB_app,List.take_append_drop]
 rw [List.take_length,e,List.length_append]
 omega
theorem drop_plL {H:List UInt8} {p0:Nat} {l:List (List UInt8)} (h:H.drop p0=recsB l) {j:Nat} (hj:j < l.length):H.drop (plL p0 l j)=frm (l.getD j []) ++ recsB (l.drop (j + 1)):=by
 have e:recsB l=recsB (l.take j) ++ recsB (l.drop j):=by rw [← recsB_app,List.take_append_drop]
 have e2:l.drop j=l.getD j []::l.drop (j + 1):=by
  rw [List.drop_eq_getElem_cons hj,List.getD_eq_getElem?_getD,List.getElem?_eq_getElem hj]
  rfl
 unfold plL
 rw [← List.drop_drop,h,e,List.drop_left,e2,recsB_cons]
def RL (R:Sr) (pl:Nat→Nat) (rc:Nat→Rec):Nat→Sr
 | 0=>R
 | j + 1=>lostR (RL R pl rc j) (pl j) (rc j)
def ML (pl:Nat→Nat) (rc:Nat→Rec):Nat→Nat→Option Nat
 | 0=>fun _=>none
 | j + 1=>lostM (ML pl rc j) (pl j) (rc j)
section
variable {w0 w w':World} {Z:Pk} {s bv bm mb n:Nat} {S:St} {R:Sr} {m:Nat→Option Nat} {H:List UInt8}
theorem slost1_any (h:LoSt w0 w Z s S R bv bm mb m n) (at_:Nat) (r:Rec) (hr:PlainR r) (hn:n < 100000) (A5 A6 A8:Option Addr) (n5 c5 n6 c6 n8 c8:Nat):
  Calls Tryz.prog 93 #[.int .u64 (at_:Int), .agg #[.int .u8 r.k, .int .u64 r.tx, .int .u64 r.pv, .int .i64 r.pg, .int .i64 r.off, .slice A5 n5 c5, .slice A6 n6 c6, .int .u64 r.nx, .slice A8 n8 c8, .bool r.op], .pointer (some ⟨bv,0,none⟩), .pointer (some ⟨bm,0,none⟩)] w (fun e w' =>e= .returned (.int .i64 0)∧∃n',LoSt w0 w' Z s S (lostR R at_ r) bv bm mb (lostM m at_ r) n'∧n'≤n + 1):=by
 obtain ⟨k,tx,pv,pg,off,bf,af,nx,dl,op⟩:=r
 obtain ⟨⟨k1,k2⟩,⟨t,h1⟩,⟨p,h2,h3⟩,-⟩:=hr
 simp only at k1 k2 h1 h2 h3 ⊢
 subst h1 h2
 rcases (show k=1∨k=2∨k=3∨k=4∨k=5 by omega) with e | e | e | e | e <;> subst e
 ·exact slost1_1 h at_ t p pv off nx bf af dl op h3 hn A5 A6 A8 n5 c5 n6 c6 n8 c8
 ·exact slost1_2 h at_ t p pv off nx bf af dl op h3 hn A5 A6 A8 n5 c5 n6 c6 n8 c8
 ·exact slost1_3 h at_ t p pv off nx bf af dl op h3 hn A5 A6 A8 n5 c5 n6 c6 n8 c8
 ·exact slost1_4 h at_ t p pv off nx bf af dl op h3 hn A5 A6 A8 n5 c5 n6 c6 n8 c8
 ·exact slost1_5 h at_ t p pv off nx bf af dl op h3 hn A5 A6 A8 n5 c5 n6 c6 n8 c8
theorem slost_recs (h:StoAt w0 w Z s S R) (rg:Rg S.D S.L H) (hT:Tab w0) (l:List (List UInt8)) (rs:List Rec) (hr:Rcs l rs) (p0:Nat) (hp0:max S.L.hd.st S.L.hd.ck=p0) (hH:H.drop p0=recsB l) (hle:p0≤H.length) (hl:l.length < 100000):
  Calls Tryz.prog 54 #[.pointer (some ⟨s,0,none⟩)] w (LostP w0 Z s S 0 (fun R' m=>R' =RL R (plL p0 l) (rcL rs) l.length∧m=ML (plL p0 l) (rcL rs) l.length)):=by
 have hlen:H.length=plL p0 l l.length:=by
  rw [plL_end,← hH,List.length_drop]
  omega
 have hfi:S.L.hd.fi≤p0:=by rw [rg.fs,← hp0];exact Nat.le_max_left _ _
 refine slost_any h 0 _ fun W bv bm mb hlo hv hm=> ?_
 rw [hp0]
 have k:=seach_lost (w0:=w0) (w:=W) (s:=s) (q:=Z.X.q) (.pointer (some ⟨bv,0,none⟩)) (.pointer (some ⟨bm,0,none⟩)) l.length (plL p0 l) (rcL rs)
  (fun j W=>∃n',n'≤j∧LoSt w0 W Z s S (RL R (plL p0 l) (rcL rs) j) bv bm mb (ML (plL p0 l) (rcL rs) j) n')
  (fun j _ _ _ _ _ _ _ _ _ W=>∃n',n'≤j∧LoSt w0 W Z s S (RL R (plL p0 l) (rcL rs) j) bv bm mb (ML (plL p0 l) (rcL rs) j) n')
  (fun j W hW=>by obtain ⟨n',-,hW⟩:=hW;exact ⟨Z,S,_,hW.sto,rg.ok,by rw [rg.end_,hlen],rfl⟩)
  (fun j W W' hW hx=>by obtain ⟨n',h1,hW⟩:=hW;exact ⟨n',h1,hW.ext_ hx⟩)
  (fun j _ _ _ _ _ _ _ _ _ W W' hW hx=>by obtain ⟨n',h1,hW⟩:=hW;exact ⟨n',h1,hW.ext_ hx⟩)
  (fun j hj=>by rw [plL_succ p0 hj];omega) (by rw [← hlen];exact rg.big) (fun j hj=>plL_mono p0 l j hj)
  (fun j W hj hW=>by
   obtain ⟨n',h1,hW⟩:=hW
   obtain ⟨o1,o2,o3⟩:=hr.ok j hj
   have kk:=sread_rec hW.sto rg (plL p0 l j) (l.getD j []) (recsB (l.drop (j + 1))) (by unfold plL;omega) o1 (drop_plL hH hj) (rcL rs j) o2 hT
   refine kk.mono fun e w' hh=> ?_
   obtain ⟨A5,n5,c5,A6,n6,c6,A8,n8,c8,he,-,-,-,-,-,-,hx⟩:=hh
   exact ⟨A5,n5,c5,A6,n6,c6,A8,n8,c8,by rw [he,plL_succ p0 hj];rfl,n',h1,hW.ext_ hx⟩)
  (fun j A5 n5 c5 A6 n6 c6 A8 n8 c8 W hj hW=>by
   obtain ⟨n',h1,hW⟩:=hW
   obtain ⟨o1,o2,o3⟩:=hr.ok j hj
   refine (slost1_any hW (plL p0 l j) (rcL rs j) o3 (by omega) A5 A6 A8 n5 c5 n6 c6 n8 c8).mono fun e w' hh=> ?_
   obtain ⟨he,n2,h2,h3⟩:=hh
   exact ⟨he,n2,by omega,h2⟩)
  ⟨0,Nat.le_refl _,hlo⟩
 rw [plL_zero] at k
 exact k.mono fun e w' hh=>by
  obtain ⟨he,n',-,h2⟩:=hh
  exact ⟨he,_,_,n',h2,rfl,rfl⟩
end
def due (m:Nat→Option Nat) (at_:Nat) (r:Rec) (C:Nat→List UInt8×Nat):Bool:=isCh r && (match m r.pg.toNat with | some f0=>decide (f0≤at_) | none=>false) && decide ((C r.pg.toNat).2 < at_)
def redo1 (m:Nat→Option Nat) (at_:Nat) (r:Rec) (C:Nat→List UInt8×Nat):Nat→List UInt8×Nat:=if due m at_ r C=true then fun j=>if j=r.pg.toNat then (over (C j).1 r.off.toNat r.af,at_) else C j else C
def CR (m:Nat→Option Nat) (pl:Nat→Nat) (rc:Nat→Rec) (C:Nat→List UInt8×Nat):Nat→Nat→List UInt8×Nat
 | 0=>C
 | j + 1=>redo1 m (pl j) (rc j) (CR m pl rc C j)
theorem redo1_congr {m:Nat→Option Nat} {at_:Nat} {r:Rec} {C C':Nat→List UInt8×Nat} {N:Nat} (h:∀i,i < N→C' i=C i) (hr:isCh r=true→r.pg.toNat < N):∀i,i < N→redo1 m at_ r C' i=redo1 m at_ r C i:=fun i hi=>by
 have e:due m at_ r C' =due m at_ r C:=by
  unfold due
  cases hc:isCh r with
  | false=>rfl
  | true=>rw [h _ (hr hc)]
 unfold redo1
 rw [e]
 split
 ·show (if i=r.pg.toNat then _ else _)=(if i=r.pg.toNat then _ else _)
  split
  ·rw [h i hi]
  ·exact h i hi
 ·exact h i hi
theorem sown_rd {w:World} {B n c:Nat} {A:Option Addr} {l:List UInt8} (h:Own w B (.slice A n c) l):Rd w A l∧∀a,A=some a→B≤a.block∧a.block < w.heap.size:=by
 constructor
 ·obtain ⟨A',c',hv,_,hr⟩:=h.bytes
  injection hv with h1
  subst h1
  exact hr
 ·intro a ha
  subst ha
  rcases h.2 with ⟨hv,_⟩ | ⟨g',cap,cur,hv,hb,hg',_⟩
  ·cases hv
  ·injection hv with hA
   injection hA with hA
   subst hA
   exact ⟨hb,(Array.getElem?_eq_some_iff.1 hg').1⟩
section
variable {w0 w w':World} {Z:Pk} {s bv bm mb nm n c f k x0:Nat} {S:St} {R:Sr} {m:Nat→Option Nat} {H:List UInt8}
structure Rdo (w0 w:World) (Z0:Pk) (s:Nat) (S0:St) (R:Sr) (bv bm mb:Nat) (m:Nat→Option Nat) (nm n c f k x0:Nat) (Z:Pk) (S:St):Prop where
 re:ReSt w0 w Z s S R bv bm mb m nm
 q:Z.X.q=Z0.X.q∧Z.X.g=Z0.X.g
 sv:Sv S n c f k
 D:S.D=S0.D
 L:S.L=S0.L
 had:S.P.H x0≠none∨S.P.n < S.P.frames
theorem Sv.page_had (h:Sv S n c f k) (hk:k + c + 4≤400000) (hx:x0 < n - (1 + c)) (hh:S.P.H x0≠none∨S.P.n < S.P.frames):∃S1 g,pageR S (x0:Int)=(0,S1)∧Sv S1 n c f (k + c + 4)∧S1.D=S.D∧S1.L=S.L∧S1.P.H x0=some g∧(g.by_,g.last)=cont S x0∧g.by_.length=504∧∀j,j < n - (1 + c)→cont S1 j=cont S j:=by
 obtain ⟨a1,a2,-,-,-,a6,g,a7,a8,a9⟩:=h.page hk hx
 obtain ⟨b1,b2,-⟩:=h.page_still hx hh
 exact ⟨(pageR S (x0:Int)).2,g,by rw [← a1],a2,b1,b2,a7,a8,a9,a6⟩
theorem sredo1_any {Z0:Pk} {S0:St} (h:Rdo w0 w Z0 s S0 R bv bm mb m nm n c f k x0 Z S) (hk:k + c + c + 8≤400000) (hT:Tab w0) (at_:Nat) (r:Rec) (hr:PlainR r) (hx:isCh r=true→r.pg=(x0:Int)) (hx0:x0 < n - (1 + c)) (hat:at_ < endOf S.L) (hb:at_ < 1000000000000) (A5 A6 A8:Option Addr) (n5 c5 n6 c6 n8 c8:Nat) (hn6:r.af.length=n6) (hA:Rd w A6 r.af) (hA2:∀a,A6=some a→a.block < w.heap.size∧¬Z.has S.P a.block∧a.block≠s):
  Calls Tryz.prog 95 #[.int .u64 (at_:Int), .agg #[.int .u8 r.k, .int .u64 r.tx, .int .u64 r.pv, .int .i64 r.pg, .int .i64 r.off, .slice A5 n5 c5, .slice A6 n6 c6, .int .u64 r.nx, .slice A8 n8 c8, .bool r.op], .pointer (some ⟨bm,0,none⟩), .pointer (some ⟨bv,0,none⟩)] w (fun e w' =>e= .returned (.int .i64 0)∧∃Z' S',Rdo w0 w' Z0 s S0 R bv bm mb m nm n c f (k + c + c + 8) x0 Z' S'∧∀i,i < n - (1 + c)→cont S' i=redo1 m at_ r (cont S) i):=by
 obtain ⟨kk,tx,pv,pg,off,bf,af,nx,dl,op⟩:=r
 obtain ⟨⟨k1,k2⟩,⟨t,h1⟩,⟨p,h2,h3⟩,o,h4,h5⟩:=hr
 simp only at k1 k2 h1 h2 h3 h4 h5 hx hn6 hA ⊢
 subst h1 h2 h4
 have hsv:=h.sv.ops (k2:=k + c + c + 8) (by omega)
 have hno:∀ {W:World},due m at_ ⟨kk,(t:Int),pv,(p:Int),(o:Int),bf,af,nx,dl,op⟩ (cont S)=false→ReSt w0 W Z s S R bv bm mb m nm→∃Z' S',Rdo w0 W Z0 s S0 R bv bm mb m nm n c f (k + c + c + 8) x0 Z' S'∧∀i,i < n - (1 + c)→cont S' i=redo1 m at_ ⟨kk,(t:Int),pv,(p:Int),(o:Int),bf,af,nx,dl,op⟩ (cont S) i:=fun hd hre=>⟨Z,S,⟨hre,h.q,hsv,h.D,h.L,h.had⟩,fun i _=>by unfold redo1;rw [hd];rfl⟩
 cases hch:(decide (kk=2) || decide (kk=3)) with
 | false=>
  refine (sredo1_no h.re at_ kk (t:Int) pv nx p o op A5 A6 A8 n5 c5 n6 c6 n8 c8 h3 hch).mono fun e w' hh=>⟨hh.1,hno ?_ hh.2⟩
  unfold due isCh
  rw [hch]
  rfl
 | true=>
  have hpx:p=x0:=Int.ofNat.inj (hx hch)
  subst hpx
  cases hm:m p with
  | none=>
   refine (sredo1_out h.re at_ kk (t:Int) pv nx p o op A5 A6 A8 n5 c5 n6 c6 n8 c8 h3 hch hm).mono fun e w' hh=>⟨hh.1,hno ?_ hh.2⟩
   unfold due
   rw [Int.toNat_natCast,hm,Bool.and_false,Bool.false_and]
  | some f0=>
   by_cases hlt:at_ < f0
   ·refine (sredo1_early h.re at_ kk (t:Int) pv nx p o op A5 A6 A8 n5 c5 n6 c6 n8 c8 h3 hch f0 hm hlt).mono fun e w' hh=>⟨hh.1,hno ?_ hh.2⟩
    unfold due
    rw [Int.toNat_natCast,hm]
    simp only
    rw [decide_eq_false (by omega),Bool.and_false,Bool.false_and]
   ·obtain ⟨S1,g1,p1,p2,p3,p4,p5,p6,p7,p8⟩:=h.sv.page_had (by omega) hx0 h.had
    have hl1:(cont S p).2=g1.last:=(congrArg Prod.snd p6).symm
    by_cases hcmp:at_≤g1.last
    ·refine (sredo1_late h.re at_ kk (t:Int) pv nx p o op A5 A6 A8 n5 c5 n6 c6 n8 c8 h3 h.sv.fit (by omega) hT hch f0 hm (by omega) p1 g1 p5 hcmp).mono fun e w' hh=> ?_
     obtain ⟨he,Z2,hz,hre⟩:=hh
     refine ⟨he,Z2,S1,⟨hre,⟨hz.1.trans h.q.1,hz.2.trans h.q.2⟩,p2.ops (by omega),p3.trans h.D,p4.trans h.L, .inl (by rw [p5];exact fun e=>by cases e)⟩,fun i hi=> ?_⟩
     have hd:due m at_ ⟨kk,(t:Int),pv,(p:Int),(o:Int),bf,af,nx,dl,op⟩ (cont S)=false:=by
      unfold due
      rw [Int.toNat_natCast,hl1,decide_eq_false (show ¬g1.last < at_ by omega),Bool.and_false]
     unfold redo1
     rw [hd]
     exact p8 i hi
    ·obtain ⟨S2,g2,q1,q2,q3,q4,q5,q6,q7,q8⟩:=p2.page_had (x0:=p) (by omega) hx0 (.inl (by rw [p5];exact fun e=>by cases e))
     refine (sredo1_do h.re at_ kk (t:Int) pv nx p o op A5 A6 A8 n5 c5 n6 c6 n8 c8 h3 h.sv.fit (by omega) p2.fit (by omega) hT hch f0 hm (by omega) p1 g1 p5 (by omega) q1 af hn6 (by omega) hA hA2).mono fun e w' hh=> ?_
     obtain ⟨he,g,Z2,hg,hz,hre⟩:=hh
     have hgg:g2=g:=by rw [q5] at hg;injection hg
     subst hgg
     obtain ⟨d1,d2⟩:=q2.set q5 o af at_ (by omega) (by rw [q4,p4];exact hat) (by omega)
     refine ⟨he,Z2,setS S2 p (chF g2 o af at_),⟨hre,⟨hz.1.trans h.q.1,hz.2.trans h.q.2⟩,d1.ops (by omega), ?_, ?_, .inl ?_⟩,fun i hi=> ?_⟩
     ·show S2.D=_;rw [q3,p3,h.D]
     ·show S2.L=_;rw [q4,p4,h.L]
     ·show upM S2.P.H p (some (chF g2 o af at_)) p≠none
      rw [upM_same]
      exact fun e=>by cases e
     ·have hd:due m at_ ⟨kk,(t:Int),pv,(p:Int),(o:Int),bf,af,nx,dl,op⟩ (cont S)=true:=by
       unfold due
       rw [Int.toNat_natCast,hm,hl1]
       simp only
       rw [show isCh ⟨kk,(t:Int),pv,(p:Int),(o:Int),bf,af,nx,dl,op⟩=true from hch,decide_eq_true (show f0≤at_ by omega),decide_eq_true (show g1.last < at_ by omega)]
       rfl
      unfold redo1
      rw [hd,if_pos rfl,d2 i]
      show (if i=p then _ else _)=(if i=(p:Int).toNat then _ else _)
      rw [Int.toNat_natCast,Int.toNat_natCast]
      by_cases e:i=p
      ·subst e
       rw [if_pos rfl,if_pos rfl]
       have e1:g2.by_=(cont S i).1:=by
        have:=congrArg Prod.fst q6
        rw [p8 i hi] at this
        exact this
       rw [e1]
      ·rw [if_neg e,if_neg e,q8 i hi,p8 i hi]
theorem sredo_recs (h:StoAt w0 w Z s S R) (sv:Sv S n c f k) (rg:Rg S.D S.L H) (hT:Tab w0) (hmap:MapI w u64R mb (sinM m) nm) (hout:¬Z.has S.P mb∧mb≠s∧w0.heap.size≤mb) (l:List (List UInt8)) (rs:List Rec) (hr:Rcs l rs) (fr:Nat) (hfr:FromAt m (endOf S.L) fr) (hfi:S.L.hd.fi≤fr) (hH:H.drop fr=recsB l) (hx:∀j,j < l.length→isCh (rcL rs j)=true→(rcL rs j).pg=(x0:Int)) (hx0:x0 < n - (1 + c)) (hh:S.P.H x0≠none∨S.P.n < S.P.frames) (hk:k + l.length * (c + c + 8)≤300000) (hc:c≤4096):
  Calls Tryz.prog 55 #[.pointer (some ⟨s,0,none⟩), .map (some mb)] w (fun e w' =>e= .returned (.int .i64 0)∧∃Z' S' bv bm,Rdo w0 w' Z s S R bv bm mb m nm n c f (k + l.length * (c + c + 8)) x0 Z' S'∧∀i,i < n - (1 + c)→cont S' i=CR m (plL fr l) (rcL rs) (cont S) l.length i):=by
 have hle:fr≤H.length:=by have:=hfr.le;rw [rg.end_] at this;exact this
 have hlen:H.length=plL fr l l.length:=by
  rw [plL_end,← hH,List.length_drop]
  omega
 have hbig:=rg.big
 refine sredo_any h rg.ok hmap hout fr hfr (by rw [rg.end_];exact hbig) 0 (fun w' =>∃Z' S' bv bm,Rdo w0 w' Z s S R bv bm mb m nm n c f (k + l.length * (c + c + 8)) x0 Z' S'∧∀i,i < n - (1 + c)→cont S' i=CR m (plL fr l) (rcL rs) (cont S) l.length i) fun W bv bm hre=> ?_
 have hlt:∀j,j < l.length→plL fr l j < H.length:=fun j hj=>by
  have h1:=plL_succ fr hj
  have h2:=plL_mono fr l (j + 1) hj
  omega
 have kk:=seach_redo (w0:=w0) (w:=W) (s:=s) (q:=Z.X.q) (.pointer (some ⟨bm,0,none⟩)) (.pointer (some ⟨bv,0,none⟩)) l.length (plL fr l) (rcL rs)
  (fun j W=>∃Z' S',Rdo w0 W Z s S R bv bm mb m nm n c f (k + j * (c + c + 8)) x0 Z' S'∧∀i,i < n - (1 + c)→cont S' i=CR m (plL fr l) (rcL rs) (cont S) j i)
  (fun j _ _ _ A6 n6 _ _ _ _ W=>∃Z' S',(Rdo w0 W Z s S R bv bm mb m nm n c f (k + j * (c + c + 8)) x0 Z' S'∧∀i,i < n - (1 + c)→cont S' i=CR m (plL fr l) (rcL rs) (cont S) j i)∧(rcL rs j).af.length=n6∧Rd W A6 (rcL rs j).af∧∀a,A6=some a→a.block < W.heap.size∧¬Z'.has S'.P a.block∧a.block≠s)
  (fun j W hW=>by
   obtain ⟨Z',S',hW,-⟩:=hW
   exact ⟨Z',S',R,hW.re.lo.sto,hW.sv.fit.log,by rw [hW.L,rg.end_,hlen],hW.q.1⟩)
  (fun j W W' hW hx=>by
   obtain ⟨Z',S',hW,h2⟩:=hW
   exact ⟨Z',S',⟨hW.re.ext_ hx,hW.q,hW.sv,hW.D,hW.L,hW.had⟩,h2⟩)
  (fun j _ _ _ A6 n6 _ _ _ _ W W' hW hx=>by
   obtain ⟨Z',S',⟨hW,h2⟩,h3,h4,h5⟩:=hW
   exact ⟨Z',S',⟨⟨hW.re.ext_ hx,hW.q,hW.sv,hW.D,hW.L,hW.had⟩,h2⟩,h3,h4.ext hx,fun a ha=>⟨Nat.lt_of_lt_of_le (h5 a ha).1 hx.size,(h5 a ha).2⟩⟩)
  (fun j hj=>by rw [plL_succ fr hj];omega) (by rw [← hlen];exact hbig) (fun j hj=>plL_mono fr l j hj)
  (fun j W hj hW=>by
   obtain ⟨Z',S',hW,h2⟩:=hW
   obtain ⟨o1,o2,o3⟩:=hr.ok j hj
   have rg2:Rg S'.D S'.L H:=by rw [hW.D,hW.L];exact rg
   have kk:=sread_rec hW.re.lo.sto rg2 (plL fr l j) (l.getD j []) (recsB (l.drop (j + 1))) (by rw [hW.L];unfold plL;omega) o1 (drop_plL hH hj) (rcL rs j) o2 hT
   refine kk.mono fun e w' hh=> ?_
   obtain ⟨A5,n5,c5,A6,n6,c6,A8,n8,c8,he,-,ho6,-,-,hn6,-,hx⟩:=hh
   refine ⟨A5,n5,c5,A6,n6,c6,A8,n8,c8,by rw [he,plL_succ fr hj];rfl,Z',S',⟨⟨hW.re.ext_ hx,hW.q,hW.sv,hW.D,hW.L,hW.had⟩,h2⟩,hn6.symm, ?_, ?_⟩
   ·exact (sown_rd ho6).1
   ·intro a ha
    obtain ⟨b1,b2⟩:=(sown_rd ho6).2 a ha
    refine ⟨b2,fun hh=> ?_,fun e=> ?_⟩
    ·have:=hW.re.lo.sto.pool.has_lt hh
     omega
    ·have:=hW.re.lo.sto.blk.lt
     omega)
  (fun j A5 n5 c5 A6 n6 c6 A8 n8 c8 W hj hW=>by
   obtain ⟨Z',S',⟨hW,h2⟩,h3,h4,h5⟩:=hW
   obtain ⟨o1,o2,o3⟩:=hr.ok j hj
   have hm1:=Nat.mul_le_mul_right (c + c + 8) (show j + 1≤l.length from hj)
   rw [Nat.succ_mul] at hm1
   have hlt2:=hlt j hj
   refine (sredo1_any hW (by omega) hT (plL fr l j) (rcL rs j) o3 (hx j hj) hx0 (by rw [hW.L,rg.end_];exact hlt2) (by omega) A5 A6 A8 n5 c5 n6 c6 n8 c8 h3 h4 h5).mono fun e w' hh=> ?_
   obtain ⟨he,Z2,S2,k1,k2⟩:=hh
   refine ⟨he,Z2,S2,⟨k1.re,k1.q,k1.sv.ops (by rw [Nat.succ_mul];omega),k1.D,k1.L,k1.had⟩,fun i hi=> ?_⟩
   rw [k2 i hi]
   exact redo1_congr h2 (fun hc=>by rw [hx j hj hc,Int.toNat_natCast];exact hx0) i hi)
  ⟨Z,S,⟨hre,⟨rfl,rfl⟩,sv.ops (by omega),rfl,rfl,hh⟩,fun _ _=>rfl⟩
 rw [plL_zero] at kk
 exact kk.mono fun e w' hh=>by
  obtain ⟨he,Z',S',h1,h2⟩:=hh
  exact ⟨he,Z',S',bv,bm,h1,h2⟩
end
section
variable {w0 w w':World} {Z Z':Pk} {s n c f k x0:Nat} {S S1 S2:St} {R R' R2:Sr} {H:List UInt8}
theorem ssettle_ex (h:StoAt w0 w Z s S R) (ft:S.Fit c) (hc:c + S.P.n * (S.L.hd.cn + 3)≤300000) (hT:Tab w0) (hoff:S.D.off=false) (hfl:∀zs,ChL S.P zs→zs.length≤S.P.n→(pflR zs S).1=0) (r:Value) (F:St→Sr→Prop)
  (KC:∀zs W Z2,ChL S.P zs→zs.length≤S.P.n→StoAt w0 W Z2 s (pflR zs S).2 R→Calls Tryz.prog 40 #[.pointer (some ⟨s,0,none⟩)] W (fun e w' =>∃S2 R2,F S2 R2∧SoPost w0 W Z2 s (pflR zs S).2.P r S2 R2 e w')):
  Calls Tryz.prog 56 #[.pointer (some ⟨s,0,none⟩)] w (fun e w' =>∃S2 R2,F S2 R2∧SoPost w0 w Z s S.P r S2 R2 e w'):=by
 have KF:Hid (Calls Tryz.prog 41 #[.pointer (some ⟨Z.q,0,none⟩)] w (fun e w' =>∃zs,(ChL S.P zs∧zs.length≤S.P.n)∧SoPost w0 w Z s S.P (.int .i64 0) (pflR zs S).2 R e w')):=hide ((pflush_any h.pool ft hc hT hoff).mono fun e w' hh=>by
  obtain ⟨zs,hz,hn,Z',he,h1,h2,h3⟩:=hh
  have e0:(pflR zs (⟨S.D,S.L,S.P⟩:St)).1=0:=hfl zs hz hn
  rw [e0] at he
  exact ⟨zs,⟨hz,hn⟩,Z',he,h.later (S':=(pflR zs S).2) h1 h2 h3,Sfr.of h2,h3⟩)
 have HKC:=hide KC
 have c2:=h.blk.cell (i:=2) rfl
 clear h ft hc hT hoff hfl KC
 go_enter Tryz.func56,Tryz.ntmps56
 go_wp2_with (first
  | (go_at_call 41;(with_reducible refine KF.out.mono ?_);rintro e2 w2 ⟨zs,hzs,Z2,rfl,h2,hf2,hl2⟩;have H2:=hide h2;have HF2:=hide hf2;have HL2:=hide hl2;have KC2:=hide (HKC.out zs w2 Z2 hzs.1 hzs.2 h2);clear h2 hf2 hl2 hzs)
  | (go_at_call 40;(with_reducible refine KC2.out.mono ?_);rintro e3 w3 ⟨S2,R2,hF,Z3,rfl,h3,hf3,hl3⟩;have HFF:=hide hF;have H3:=hide h3;have HF3:=hide hf3;have HL3:=hide hl3;clear hF h3 hf3 hl3))
 go_ret
 exact ⟨S2,R2,HFF.out,SoPost.then HF2.out HL2.out ⟨Z3,rfl,H3.out,HF3.out,HL3.out⟩⟩
theorem flL_same {D:Dk} {L:Lg} (h:L.sure=endOf L):flL D L=L:=by
 unfold flL
 rw [if_neg (fun hh=>hh.2 h)]
structure Stl (S:St) (n c f k:Nat) (H:List UInt8) (S':St):Prop where
 sv:Sv S' n c f k
 rg:Rg S'.D S'.L H
 hd:S'.L.hd= { S.L.hd with st:=H.length,fi:=H.length,ck:=0,old:=mkO S.L H.length }
 sure:S'.L.sure=H.length
 cont:∀j,j < n - (1 + c)→cont S' j=Proofs.YthmdmgnhfhpcaaaGreatDoor.cont S j
theorem sv_settle (h:StoAt w0 w Z s S R) (sv:Sv S n c f k) (rg:Rg S.D S.L H) (hs:S.L.sure=H.length) (hT:Tab w0) (hsort:SortC) (hop:R.op=false) (l:List (List UInt8)) (hl:∀p∈l,RecOk p) (hH:H.drop S.L.hd.fi=recsB l) (hk:k + 64 * (c + 3) + 10≤290000):
  Calls Tryz.prog 56 #[.pointer (some ⟨s,0,none⟩)] w (fun e w' =>∃S' R',(Stl S n c f (k + 64 * (c + 3) + 3) H S'∧R' =R)∧SoPost w0 w Z s S.P (.int .i64 0) S' R' e w'):=by
 have hfr:=sv.fit.pool.frames
 have hcnt:=sv.fit.pool.cnt
 have hcn:=sv.cn
 have hn64:S.P.n * (c + 3)≤64 * (c + 3):=Nat.mul_le_mul_right _ (by omega)
 have hmul:∀zs:List Nat,zs.length≤S.P.n→zs.length * (c + 3)≤64 * (c + 3):=fun zs hz=>Nat.mul_le_mul_right _ (by omega)
 refine ssettle_ex h sv.fit (by rw [hcn];omega) hT sv.good.awk.1 (fun zs hz hn=>(sv.flush hz (by have:=hmul zs hn;omega)).1) (.int .i64 0) (fun S' R' =>Stl S n c f (k + 64 * (c + 3) + 3) H S'∧R' =R) fun zs W Z2 hz hn hW=> ?_
 have hmz:=hmul zs hn
 obtain ⟨p1,p2,p3,p4,p5,p6,p7,p8,p9,p10,p11⟩:=sv.flush hz (by omega)
 obtain ⟨q1,q2⟩:=p9 (by rw [rg.end_];exact hs)
 generalize (pflR zs S).2=S1 at *
 have hap:=sv.good.apart
 have rg1:Rg S1.D S1.L H:=by
  rw [q1]
  exact rg.elsewhere p2.good.awk p5 p2.fit.bd (by rw [p2.dur,sv.dur]) fun j hj=>q2 j (by omega)
 have hse:S1.L.sure=endOf S1.L:=by rw [rg1.end_,q1,hs]
 obtain ⟨t1,t2⟩:=p2.settle
 have hfo:=p2.fit.ops
 have eD:=flD_same (D:=S1.D) hse
 have eL:=flL_same (D:=S1.D) hse
 have hE:flE S1.D S1.L=0:=(rg1.flush (by omega)).1
 have hbig:=rg.big
 have hk1:=scheck_none (c:=k + zs.length * (c + 3) + 1) hW p2.fit (by omega) (by rw [p11];decide) hT hop hsort (fun ys hy=>by
  cases ys with
  | nil=>rfl
  | cons y ys=>
   obtain ⟨e1,-,-,-,-,-,-,e8,-⟩:=settleP_is S1.L S1.P
   rcases (hy.mem y.1 y.2).1 (List.mem_cons_self ..) with h1 | ⟨-,g,hg,hc,-⟩
   ·have:=e8 y.1 y.2 h1
    rw [p4.1 y.1] at this
    cases this
   ·rw [e1] at hg
    rw [p4.2 y.1 g hg] at hc
    cases hc) hE (by rw [eD,eL];exact t1.fit) (by rw [eL,rg1.fs];have:=rg1.st;have:=rg1.sure;omega) (by rw [eL];exact Nat.le_of_eq hse)
 rw [eD,eL,rg1.end_] at hk1
 have hfi1:S1.L.hd.fi=S.L.hd.fi:=by rw [p7]
 have hfi2:S.L.hd.fi≤H.length:=by have h1:=rg.st;have h2:=rg.sure;omega
 have rgt:Rg (⟨S1.D,S1.L,settleP S1.L S1.P⟩:St).D (⟨S1.D,S1.L,settleP S1.L S1.P⟩:St).L H:=rg1
 obtain ⟨m1,m2,m3,m4,m5,m6⟩:=Sv.mark t1 rgt (by omega) l [] H.length hl (by rw [List.append_nil];show H.drop S1.L.hd.fi=_;rw [hfi1];exact hH) (by show H.length=S1.L.hd.fi + _;rw [hfi1,← hH,List.length_drop];omega) (by show H.length≤S1.L.sure;rw [q1,hs];exact Nat.le_refl _)
 have m1:mkE S1.D S1.L 0 H.length=0:=m1
 rw [m1] at hk1
 refine hk1.mono fun e w' hh=>⟨_,R,⟨⟨m2.ops (by omega),m3, ?_, ?_,fun j hj=> ?_⟩,rfl⟩,hh⟩
 ·refine m4.trans ?_
  show ({ S1.L.hd with st:=H.length,fi:=H.length,ck:=0,old:=mkO S1.L H.length }:Hd)=_
  rw [q1]
 ·refine m5.trans ?_
  show S1.L.sure=_
  rw [q1,hs]
 ·rw [m6 j hj]
  exact (t2 j).trans (p6 j hj)
theorem Rcs.drop {l:List (List UInt8)} {rs:List Rec} (h:Rcs l rs) (i:Nat):Rcs (l.drop i) (rs.drop i):=by
 refine ⟨by rw [List.length_drop,List.length_drop,h.len],fun j hj=> ?_⟩
 rw [List.length_drop] at hj
 have e1:(l.drop i).getD j []=l.getD (i + j) []:=by rw [List.getD_eq_getElem?_getD,List.getD_eq_getElem?_getD,List.getElem?_drop]
 have e2:rcL (rs.drop i) j=rcL rs (i + j):=by unfold rcL;rw [List.getD_eq_getElem?_getD,List.getD_eq_getElem?_getD,List.getElem?_drop]
 rw [e1,e2]
 exact h.ok (i + j) (by omega)
theorem drop_recs {l:List (List UInt8)} {p0:Nat} (h:H.drop p0=recsB l) (i:Nat):H.drop (plL p0 l i)=recsB (l.drop i):=by
 have e:recsB l=recsB (l.take i) ++ recsB (l.drop i):=by rw [← recsB_app,List.take_append_drop]
 unfold plL
 rw [← List.drop_drop,h,e,List.drop_left]
theorem sv_restore (h:StoAt w0 w Z s S R) (sv:Sv S n c f k) (rg:Rg S.D S.L H) (hs:S.L.sure=H.length) (hT:Tab w0) (hsort:SortC) (l:List (List UInt8)) (rs:List Rec) (hr:Rcs l rs) (hH:H.drop S.L.hd.st=recsB l) (hck:S.L.hd.ck≤S.L.hd.st) (hll:l.length < 2000)
  (hend:(RL R (plL S.L.hd.st l) (rcL rs) l.length).op=false) (j0:Nat) (hfr:FromAt (ML (plL S.L.hd.st l) (rcL rs) l.length) H.length (plL S.L.hd.st l j0))
  (hx:∀j,j < l.length→isCh (rcL rs j)=true→(rcL rs j).pg=(x0:Int)) (hx0:x0 < n - (1 + c)) (hh:S.P.H x0≠none∨S.P.n < S.P.frames) (hk:k + l.length * (c + c + 8) + 64 * (c + 3) + 20≤280000) (hc:c≤4096):
  Calls Tryz.prog 31 #[.pointer (some ⟨s,0,none⟩)] w (fun e w' =>e= .returned (.int .i64 0)∧∃Z' S',Z'.X.g=Z.X.g∧StoAt w0 w' Z' s S' (RL R (plL S.L.hd.st l) (rcL rs) l.length)∧Sv S' n c f (k + l.length * (c + c + 8) + 64 * (c + 3) + 3)∧Rg S'.D S'.L H∧S'.L.sure=H.length∧S'.L.hd.st=H.length∧
   ∀i,i < n - (1 + c)→cont S' i=CR (ML (plL S.L.hd.st l) (rcL rs) l.length) (plL (plL S.L.hd.st l j0) (l.drop j0)) (rcL (rs.drop j0)) (cont S) (l.drop j0).length i):=by
 have hst:=rg.st
 have hsu:=rg.sure
 have hfs:=rg.fs
 obtain ⟨p0,HP0⟩:∃p0,S.L.hd.st=p0:=⟨_,rfl⟩
 rw [HP0] at hH hend hfr ⊢
 obtain ⟨RE,HRE⟩:∃RE,RL R (plL p0 l) (rcL rs) l.length=RE:=⟨_,rfl⟩
 obtain ⟨M,HM⟩:∃M,ML (plL p0 l) (rcL rs) l.length=M:=⟨_,rfl⟩
 have hdl:(l.drop j0).length≤l.length:=by rw [List.length_drop];omega
 have hm1:=Nat.mul_le_mul_right (c + c + 8) hdl
 have kl:=slost_recs h rg hT l rs hr p0 (by rw [HP0];omega) hH (by omega) (by omega)
 rw [HRE,HM] at kl
 rw [HRE] at hend ⊢
 rw [HM] at hfr ⊢
 refine srestore_ok (w0:=w0) (Pm:=fun mb W=>StoAt w0 W Z s S RE∧(∃q,MapI W u64R mb (sinM M) q)∧¬Z.has S.P mb∧mb≠s∧w0.heap.size≤mb)
  (Pr:=fun W=>∃Z' S',(Z'.X.q=Z.X.q∧Z'.X.g=Z.X.g)∧StoAt w0 W Z' s S' RE∧Sv S' n c f (k + l.length * (c + c + 8))∧S'.D=S.D∧S'.L=S.L∧∀i,i < n - (1 + c)→cont S' i=CR M (plL (plL p0 l j0) (l.drop j0)) (rcL (rs.drop j0)) (cont S) (l.drop j0).length i)
  (kl.mono fun e w' hh=> ?_) (fun mb W hW=> ?_) (fun W hW=> ?_) (fun W hW=> ?_)
 ·obtain ⟨bv,bm,mb,m,q,R',he,hlo,-,-,rfl,rfl⟩:=hh
  exact ⟨mb,he,hlo.sto,⟨q,hlo.map⟩,hlo.out⟩
 ·obtain ⟨h1,⟨q,h2⟩,h3⟩:=hW
  have kk:=sredo_recs h1 sv rg hT h2 h3 (l.drop j0) (rs.drop j0) (hr.drop j0) (plL p0 l j0) (by rw [rg.end_];exact hfr) (by unfold plL;omega) (drop_recs hH j0) (x0:=x0) (fun j hj hc=>by
   rw [List.length_drop] at hj
   have e2:rcL (rs.drop j0) j=rcL rs (j0 + j):=by unfold rcL;rw [List.getD_eq_getElem?_getD,List.getD_eq_getElem?_getD,List.getElem?_drop]
   rw [e2] at hc ⊢
   exact hx (j0 + j) (by omega) hc) hx0 hh (by omega) hc
  refine kk.mono fun e w' hh=> ?_
  obtain ⟨he,Z',S',bv,bm,hd,hcn⟩:=hh
  exact ⟨he,Z',S',hd.q,hd.re.lo.sto,hd.sv.ops (by omega),hd.D,hd.L,hcn⟩
 ·obtain ⟨Z',S',-,h1,-⟩:=hW
  exact ⟨Z',S',RE,h1,hend⟩
 ·obtain ⟨Z',S',hz,h1,h2,h3,h4,h5⟩:=hW
  have kk:=sv_settle h1 h2 (by rw [h3,h4];exact rg) (by rw [h4];exact hs) hT hsort hend l (fun p hp=>by
   obtain ⟨j,hj,rfl⟩:=List.getElem_of_mem hp
   have:=(hr.ok j hj).1
   rw [List.getD_eq_getElem?_getD,List.getElem?_eq_getElem hj] at this
   exact this) (by rw [h4,hfs,HP0];exact hH) (by omega)
  refine kk.mono fun e w' hh=> ?_
  obtain ⟨S2,R2,⟨hst2,rfl⟩,Z2,he,g1,-,g3⟩:=hh
  exact ⟨he,Z2,S2,g3.X.g.trans hz.2,g1,hst2.sv.ops (by omega),hst2.rg,hst2.sure,by rw [hst2.hd],fun i hi=>by rw [hst2.cont i hi];exact h5 i hi⟩
end
end Go.Proofs.YthmdmgnhfhpcaaaGreatDoor
