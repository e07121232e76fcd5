/-
  What the card wants, part 4: LgRd, LgX, LgFr, LgAw, PlG, PlF, Made, PlE, PlC, PlI, PlS, PlB, PlT, PlR.
-/
import Derived.Lib.SlBytesConst
import Derived.Test.YthmdmgnhfhpcaaaGreatDoorPkCardSvE0
import Derived.Test.YthmdmgnhfhpcaaaGreatDoorPkCardSvE3
set_option linter.unusedVariables false
set_option linter.unusedSimpArgs false
set_option maxRecDepth 20000
set_option maxHeartbeats 12800000
namespace Go.Proofs.YthmdmgnhfhpcaaaGreatDoor
open Go.RowKit
section
variable {w0 w w1:World} {X:Bk} {D D':Dk} {L L':Lg} {r:Value} {e:Ending} {w':World}
def RsPost (w:World) (l:List UInt8) (n:Nat) (e:Ending) (w':World):Prop:=∃b off c,e= .returned (.tuple #[.slice (some ⟨b,off,none⟩) n c, .int .i64 0])∧n≤c∧Rd w' (some ⟨b,off,none⟩) l∧Ext w w'
theorem rest_tail (h:LgAt w0 w X D L) (ok:L.Ok D) (i nt:Nat) (hnt:L.tail.length=nt) (hi:i < nt):Calls Tryz.prog 138 #[.pointer (some ⟨X.q,0,none⟩), .int .u64 ((flo L.sure + i:Nat):Int)] w (RsPost w (L.tail.drop i) (nt - i)):=by
 have HL:=hide h
 have KT:Hid (∀W,Ext w W→Calls Tryz.prog 88 #[.pointer (some ⟨X.q,0,none⟩)] W (Same W (.int .u64 (flo L.sure:Int)))):=hide (fun W hW=>tailAt_any (h.ext_ hW) ok)
 obtain ⟨At,ct,htv,hct,hrt⟩:=h.tail.bytes
 have HRT:=hide hrt
 obtain ⟨b,off,u,rfl,-,-⟩:=hrt.at (k:=0) (by omega)
 have c9:=h.blk.cell (i:=9) rfl
 rw [htv,hnt] at c9
 rw [hnt] at hct
 have hsu:=ok.sure
 have htl:=ok.tail
 have hfl:=flo_le L.sure
 obtain ⟨f,HF⟩:∃f:Nat,Hid (flo L.sure=f):=⟨_,hide rfl⟩
 rw [HF.out] at KT hfl ⊢
 obtain ⟨x,HX⟩:∃x:Int,Hid (((f + i:Nat):Int)=x):=⟨_,hide rfl⟩
 have hge:(f:Int)≤x:=by rw [← HX.out];omega
 have hlt:¬x < (f:Int):=by omega
 have hxw:IntKind.u64.wrap (x - (f:Int))=(i:Int):=by rw [IntKind.wrap_u64,← HX.out];omega
 rw [HX.out]
 have hii:(i:Int)≤(nt:Int):=by omega
 have hii2:i≤nt:=by omega
 have hcc:¬ct=i:=by omega
 have HCT:=hide hct
 have HI:=hide hi
 have HNT:=hide hnt
 clear h ok htv hct hrt hsu htl hfl hi hnt
 go_enter Tryz.func138,Tryz.ntmps138
 go_upto_region 2 with (go_at_call 88;(with_reducible refine (KT.out _ (Ext.refl _)).mono ?_);rintro e w2 ⟨rfl,rfl⟩)
 go_region_law (first
  | (go_simp;go_at_call 88;(with_reducible refine (KT.out _ (Ext.drew _)).mono ?_);rintro e w2 ⟨rfl,rfl⟩))
 all_goals
  go_wp2
  go_ret2
  refine ⟨b,off + i,ct - i,rfl,by have:=HCT.out;omega, ?_,Ext.drew _⟩
  have hd:=(HRT.out.ext (Ext.drew w)).drop i
  rw [add_flat] at hd
  exact hd
end
section
variable {dur:List (List UInt8)} {pen:List (Nat×List UInt8)} {k i n:Nat} {p q:List UInt8}
theorem wE_still (hi:i < dur.length) (hp:p.length=512):wE ⟨dur,pen,k,0,false⟩ (i:Int) p=0:=by
 unfold wE
 rw [if_neg (by show ¬((i:Int) < 0∨(dur.length:Int)≤i);omega),if_neg (by simp [hp]),if_neg (by simp)]
 rfl
theorem wD_still (hi:i < dur.length) (hp:p.length=512):wD ⟨dur,pen,k,0,false⟩ (i:Int) p=⟨dur,pen ++ [(i,p)],k + 1,0,false⟩:=by
 unfold wD
 rw [if_neg (by show ¬((i:Int) < 0∨(dur.length:Int)≤i);omega),if_neg (by simp [hp]),if_neg (by simp),Int.toNat_natCast]
 rfl
theorem sE_still:sE ⟨dur,pen,k,0,false⟩=0:=by
 unfold sE
 rw [if_neg (by simp),if_neg (by simp)]
theorem sD_one:sD ⟨dur, [(i,p)],k,0,false⟩=⟨dur.set i p, [],k + 1,0,false⟩:=by
 unfold sD
 rw [if_neg (by simp),if_neg (by simp)]
 rfl
theorem sD_two {j:Nat}:sD ⟨dur, [(i,p),(j,q)],k,0,false⟩=⟨(dur.set i p).set j q, [],k + 1,0,false⟩:=by
 unfold sD
 rw [if_neg (by simp),if_neg (by simp)]
 rfl
theorem gE_still (hi:i < dur.length):gE ⟨dur,pen,k,0,false⟩ (i:Int)=0:=by
 unfold gE
 rw [if_neg (by show ¬((i:Int) < 0∨(dur.length:Int)≤i);omega),if_neg (by simp)]
theorem gB_still (hi:i < dur.length):gB ⟨dur, [],k,0,false⟩ (i:Int)=dur.getD i []:=by
 unfold gB
 rw [if_neg (by show ¬((i:Int) < 0∨(dur.length:Int)≤i);omega),if_neg (by simp),Int.toNat_natCast]
 unfold Dk.at
 rw [if_pos (lastP_nil i)]
end
def zS (n:Nat):List (List UInt8):=List.replicate n (List.replicate 512 0)
theorem zS_len (n:Nat):(zS n).length=n:=List.length_replicate ..
theorem zS_get {n i:Nat} (h:i < n):(zS n).getD i []=List.replicate 512 0:=by
 unfold zS
 rw [List.getD_eq_getElem?_getD,List.getElem?_replicate,if_pos h]
 rfl
section
variable {n a c k:Nat}
theorem pt_zero {dur:List (List UInt8)} {i:Nat} (hi:i < dur.length) (h:dur.getD i []=List.replicate 512 0):ptIs ⟨dur, [],k,0,false⟩ (i:Int)=false:=by
 unfold ptIs
 rw [gB_still hi,h]
 simp only [decide_eq_false_iff_not]
 intro h2
 exact unsE_zero 2 (by decide) h2.2
theorem nx_zero (hf:a + 1 + c≤n):∀j,j≤c→nxE ⟨zS n, [],k,0,false⟩ (a:Int) j=0
 | 0,_=>rfl
 | j + 1,hj=>by
  unfold nxE
  have e:(a:Int) + 1 + (j:Int)=((a + 1 + j:Nat):Int):=by omega
  rw [e,pt_zero (by rw [zS_len];omega) (zS_get (by omega)),if_neg (by decide)]
  exact nx_zero hf j (by omega)
def b1S (c:Nat):List UInt8:=sealB 1 (Hd.ns ⟨0,0,480,480,0,c⟩) []
def b2S (c:Nat):List UInt8:=sealB 1 (Hd.ns ⟨1,0,480,480,0,c⟩) []
def bpS:List UInt8:=sealB 2 (ptNs 1 1 0) []
theorem b1S_len (c:Nat):(b1S c).length=512:=sealB_length (by simp [Hd.ns]) (by simp)
theorem b2S_len (c:Nat):(b2S c).length=512:=sealB_length (by simp [Hd.ns]) (by simp)
theorem bpS_len:bpS.length=512:=sealB_length (by simp [ptNs]) (by simp)
theorem fits_yes (h4:4≤c) (hf:a + 1 + c≤n):fitsE n (a:Int) (c:Int)=0:=by unfold fitsE;rw [if_neg (by omega)]
def dk2 (n a c:Nat):Dk:=⟨(((zS n).set a (b1S c)).set a (b2S c)).set (a + 2) bpS, [],5,0,false⟩
def lgN (a c:Nat):Lg:=⟨a,⟨1,0,480,480,0,c⟩,480, [],0⟩
theorem set_get {α:Type} (L:List α) (i:Nat) (x d:α) (h:i < L.length):(L.set i x).getD i d=x:=by simp [List.getD_eq_getElem?_getD,h]
theorem set_far {α:Type} (L:List α) (i j:Nat) (x d:α) (h:j≠i):(L.set i x).getD j d=L.getD j d:=by simp [List.getD_eq_getElem?_getD,List.getElem?_set_ne (Ne.symm h)]
end
section
variable {n a c:Nat} {w0 w:World}
theorem set_lens {L:List (List UInt8)} (h:∀s∈L,s.length=512) (i:Nat) (p:List UInt8) (hp:p.length=512):∀s∈L.set i p,s.length=512:=fun s hs=>by
 rcases List.mem_or_eq_of_mem_set hs with h1 | h1
 ·exact h s h1
 ·rw [h1];exact hp
theorem zS_lens (n:Nat):∀s∈zS n,s.length=512:=fun s hs=>by rw [List.eq_of_mem_replicate hs];exact List.length_replicate ..
theorem still_bd {dur:List (List UInt8)} {k:Nat} (h1:1≤dur.length) (h2:dur.length≤4096) (h:∀s∈dur,s.length=512) (hk:k < 1000000):Bd ⟨dur, [],k,0,false⟩:=
 ⟨⟨h1,h2,h,fun x hx=>by cases hx⟩,by show (0:Nat) < _;decide,hk,by show (0:Nat) < _;decide⟩
theorem D0_bd (h1:1≤n) (h2:n≤4096):Bd (D0 n):=still_bd (by show 1≤(zS n).length;rw [zS_len];exact h1) (by show (zS n).length≤_;rw [zS_len];exact h2) (zS_lens n) (by decide)
theorem dk2_len:(dk2 n a c).dur.length=n:=by show ((((zS n).set a (b1S c)).set a (b2S c)).set (a + 2) bpS).length=n;rw [List.length_set,List.length_set,List.length_set,zS_len]
theorem lgN_ok (h4:4≤c) (h5:c≤4096) (hf:a + 1 + c≤n):(lgN a c).Ok (dk2 n a c):=
 ⟨⟨by show 1 < _;decide,by show 0 < _;decide,by show 480 < _;decide,by show 480 < _;decide,by show 0 < _;decide,by show c < _;omega⟩,⟨h4,h5⟩,by rw [dk2_len];exact hf,by show 480 < _;decide,by show 0 < _;decide,by show 0 < _;decide⟩
end
section
variable {w0 w:World} {X:Bk} {D:Dk} {L:Lg}
theorem LgAt.has_lt (h:LgAt w0 w X D L) {k:Nat} (hk:X.has k):k < w.heap.size:=by
 rcases hk with rfl | rfl | rfl | rfl | ⟨a,ha,rfl⟩ | hk
 ·exact h.blk.lt
 ·exact h.disk.blk.lt
 ·exact h.disk.dur.lt
 ·exact h.disk.new.lt
 ·exact (own_base h.disk.pen a ha).2
 ·exact (own_block h.tail k hk).2.1
end
structure Pk where
 X:Bk
 q:Nat
 hb:Nat
 ob:Nat
 fb:Nat→Nat
def frC (f:Fm):List Value:=bs f.by_ ++ [.int .u64 (f.last:Int), .int .u64 (f.hi:Int), .bool f.ch, .int .u64 (f.since:Int), .int .i64 (f.pins:Int), .int .i64 (f.used:Int)]
def plC (Z:Pk) (P:Pl):List Value:=
 [.pointer (some ⟨Z.X.g,0,none⟩), .pointer (some ⟨Z.X.q,0,none⟩), .int .i64 (P.at_:Int), .int .i64 (P.pages:Int), .int .i64 (P.frames:Int), .map (some Z.hb), .map (some Z.ob), .int .u64 (P.sure:Int), .int .i64 (P.asked:Int)]
def heldM (Z:Pk) (P:Pl):Nat→Option (DataW Unit):=fun i=>(P.H i).map fun _=> .lit (.int .i64 (Z.fb i:Int))
def wayM (P:Pl):Nat→Option (DataW Unit):=fun i=>(P.W i).map fun s=> .lit (.int .u64 (s:Int))
def u64R:Value→Option (DataW Unit×List MemPlace)
 | .int .u64 n=>some (.lit (.int .u64 n), [])
 | _=>none
structure PlAt (w0 w:World) (Z:Pk) (D:Dk) (L:Lg) (P:Pl):Prop where
 log:LgAt w0 w Z.X D L
 blk:Rw w Z.q 88 (plC Z P)
 held:MapI w ptrR Z.hb (heldM Z P) P.n
 way:MapI w u64R Z.ob (wayM P) P.m
 fr:∀i f,P.H i=some f→Rw w (Z.fb i) 103 (frC f)
 inj:∀i j f g,P.H i=some f→P.H j=some g→Z.fb i=Z.fb j→i=j
 base:w0.heap.size≤Z.q∧w0.heap.size≤Z.hb∧w0.heap.size≤Z.ob∧∀i f,P.H i=some f→w0.heap.size≤Z.fb i
 ne:Z.hb≠Z.ob
def Pk.has (Z:Pk) (P:Pl) (k:Nat):Prop:=Z.X.has k∨k=Z.q∨k=Z.hb∨k=Z.ob∨∃i f,P.H i=some f∧k=Z.fb i
structure Pfr (Z:Pk) (P:Pl) (w w':World):Prop where
 os:w'.os=w.os
 tape:w'.tape=w.tape
 output:w'.output=w.output
 size:w.heap.size≤w'.heap.size
 other:∀k,k < w.heap.size→¬Z.has P k→w'.heap[k]? =w.heap[k]?
structure Pk.Later (Z':Pk) (P':Pl) (Z:Pk) (P:Pl) (w:World):Prop where
 q:Z'.q=Z.q
 hb:Z'.hb=Z.hb
 ob:Z'.ob=Z.ob
 X:Z'.X.Later Z.X w
 has:∀k,Z'.has P' k→Z.has P k∨w.heap.size≤k
def PPost (w0 w:World) (Z:Pk) (P:Pl) (r:Value) (D':Dk) (L':Lg) (P':Pl) (e:Ending) (w':World):Prop:=
 ∃Z',e= .returned r∧PlAt w0 w' Z' D' L' P'∧Pfr Z P w w'∧Z'.Later P' Z P w
section
variable {w0 w w1 w':World} {X X':Bk} {Z Z':Pk} {D D':Dk} {L L':Lg} {P P':Pl} {r:Value} {e:Ending} {k:Nat}
theorem LgAt.obj (h:LgAt w0 w X D L) (hk:X.has k):∃cs t fr,w.heap[k]? =some (.cells cs t fr)∧t∈ [84,58,119,3,121,5]:=by
 rcases hk with rfl | rfl | rfl | rfl | ⟨a,ha,rfl⟩ | hk
 ·exact ⟨_,_,_,h.blk,by decide⟩
 ·exact ⟨_,_,_,h.disk.blk,by decide⟩
 ·exact ⟨_,_,_,h.disk.dur,by decide⟩
 ·exact ⟨_,_,_,h.disk.new,by decide⟩
 ·rcases h.disk.pen.2 with ⟨hv,_⟩ | ⟨g2,cap,cur,hv,_,hg,_⟩
  ·injection hv with hv;rw [ha] at hv;cases hv
  ·injection hv with hv
   rw [ha] at hv
   injection hv with hv
   subst hv
   exact ⟨_,_,_,hg,by decide⟩
 ·rcases h.tail.2 with ⟨hv,_⟩ | ⟨g2,cap,cur,hv,_,hg,_⟩
  ·rw [hv] at hk;cases hk
  ·rw [hv] at hk
   injection hk with hk
   subst hk
   exact ⟨_,_,_,hg,by decide⟩
theorem LgAt.not_rw (h:LgAt w0 w X D L) {t:TypeId} {vs:List Value} (hr:Rw w k t vs) (ht:t∉ [84,58,119,3,121,5]):¬X.has k:=fun hk=>by
 obtain ⟨cs,t',fr,h1,h2⟩:=h.obj hk
 unfold Rw at hr
 rw [hr] at h1
 injection h1 with h1
 injection h1 with _ h3 _
 exact ht (h3▸h2)
theorem LgAt.not_map (h:LgAt w0 w X D L) {es:Array MapEntry} {clock:Nat} (hr:w.heap[k]? =some (.map es clock)):¬X.has k:=fun hk=>by
 obtain ⟨cs,t',fr,h1,h2⟩:=h.obj hk
 rw [hr] at h1
 injection h1 with h1
 cases h1
theorem LgAt.keep (h:LgAt w0 w X D L) (hx:Ext w0 w') (hk:∀k,X.has k→w'.heap[k]? =w.heap[k]?):LgAt w0 w' X D L:=
 ⟨hx,⟨(hk _ (.inr (.inl rfl))).trans h.disk.blk,(hk _ (.inr (.inr (.inl rfl)))).trans h.disk.dur,(hk _ (.inr (.inr (.inr (.inl rfl))))).trans h.disk.new,ownsRow_far h.disk.pen fun a ha=>hk _ (.inr (.inr (.inr (.inr (.inl ⟨a,ha,rfl⟩))))),h.disk.base⟩,(hk _ (.inl rfl)).trans h.blk,h.tail.keep1 fun j hj=>hk _ (.inr (.inr (.inr (.inr (.inr hj))))),h.base⟩
theorem PlAt.not_q (h:PlAt w0 w Z D L P):¬Z.X.has Z.q:=h.log.not_rw h.blk (by decide)
theorem PlAt.not_hb (h:PlAt w0 w Z D L P):¬Z.X.has Z.hb:=by
 obtain ⟨es,c,hb⟩:=h.held.obj
 exact h.log.not_map hb
theorem PlAt.not_ob (h:PlAt w0 w Z D L P):¬Z.X.has Z.ob:=by
 obtain ⟨es,c,hb⟩:=h.way.obj
 exact h.log.not_map hb
theorem PlAt.not_fb (h:PlAt w0 w Z D L P) {i:Nat} {f:Fm} (hf:P.H i=some f):¬Z.X.has (Z.fb i):=h.log.not_rw (h.fr i f hf) (by decide)
theorem rw_ne_map {t:TypeId} {vs:List Value} {j:Nat} {R:Value→Option (DataW Unit×List MemPlace)} {m:Nat→Option (DataW Unit)} {sz:Nat} (hr:Rw w k t vs) (hm:MapI w R j m sz):k≠j:=fun e=>by
 obtain ⟨es,c,hb⟩:=hm.obj
 subst e
 unfold Rw at hr
 rw [hb] at hr
 injection hr with hr
 cases hr
theorem PlAt.q_hb (h:PlAt w0 w Z D L P):Z.q≠Z.hb:=rw_ne_map h.blk h.held
theorem PlAt.q_ob (h:PlAt w0 w Z D L P):Z.q≠Z.ob:=rw_ne_map h.blk h.way
theorem PlAt.q_fb (h:PlAt w0 w Z D L P) {i:Nat} {f:Fm} (hf:P.H i=some f):Z.q≠Z.fb i:=h.blk.apart (h.fr i f hf) (by decide)
theorem PlAt.fb_hb (h:PlAt w0 w Z D L P) {i:Nat} {f:Fm} (hf:P.H i=some f):Z.fb i≠Z.hb:=rw_ne_map (h.fr i f hf) h.held
theorem PlAt.fb_ob (h:PlAt w0 w Z D L P) {i:Nat} {f:Fm} (hf:P.H i=some f):Z.fb i≠Z.ob:=rw_ne_map (h.fr i f hf) h.way
theorem PlAt.has_lt (h:PlAt w0 w Z D L P) (hk:Z.has P k):k < w.heap.size:=by
 rcases hk with hk | rfl | rfl | rfl | ⟨i,f,hf,rfl⟩
 ·exact h.log.has_lt hk
 ·exact h.blk.lt
 ·exact h.held.lt
 ·exact h.way.lt
 ·exact (h.fr i f hf).lt
theorem PlAt.keep (h:PlAt w0 w Z D L P) (hx:Ext w0 w') (hk:∀k,Z.has P k→w'.heap[k]? =w.heap[k]?):PlAt w0 w' Z D L P:=
 ⟨h.log.keep hx fun k hk' =>hk k (.inl hk'),(hk _ (.inr (.inl rfl))).trans h.blk,h.held.keep (hk _ (.inr (.inr (.inl rfl)))),h.way.keep (hk _ (.inr (.inr (.inr (.inl rfl))))),fun i f hf=>(hk _ (.inr (.inr (.inr (.inr ⟨i,f,hf,rfl⟩))))).trans (h.fr i f hf),h.inj,h.base,h.ne⟩
theorem PlAt.ext_ (h:PlAt w0 w Z D L P) (hx:Ext w w'):PlAt w0 w' Z D L P:=h.keep (h.log.ext.trans hx) fun _ hk=>Below.block hx _ (h.has_lt hk)
theorem Pfr.ext (h:Ext w w'):Pfr Z P w w':=⟨h.os,h.tape,h.output,h.size,fun k hk _=>Below.block h k hk⟩
theorem Pfr.refl:Pfr Z P w w:=Pfr.ext (Ext.refl _)
theorem Pk.Later.refl (Z:Pk) (P:Pl) (w:World):Z.Later P Z P w:=⟨rfl,rfl,rfl,Bk.Later.refl _ _,fun _ h=> .inl h⟩
theorem Pk.Later.up (h:Z'.Later P' Z P w1) (hs:w.heap.size≤w1.heap.size):Z'.Later P' Z P w:=⟨h.q,h.hb,h.ob,h.X.up hs,fun k hk=>by
 rcases h.has k hk with h1 | h1
 ·exact .inl h1
 ·exact .inr (by omega)⟩
theorem Pk.Later.trans {Z'':Pk} {P'':Pl} (h:Z'.Later P' Z P w) (k:Z''.Later P'' Z' P' w1) (hs:w.heap.size≤w1.heap.size):Z''.Later P'' Z P w:=
 ⟨k.q.trans h.q,k.hb.trans h.hb,k.ob.trans h.ob,h.X.trans k.X hs,fun b hb=>by
  rcases k.has b hb with h1 | h1
  ·exact h.has b h1
  ·exact .inr (by omega)⟩
theorem Pfr.trans {w2:World} (h:Pfr Z P w w1) (k:Pfr Z' P' w1 w2) (hl:Z'.Later P' Z P w):Pfr Z P w w2:=
 ⟨k.os.trans h.os,k.tape.trans h.tape,k.output.trans h.output,Nat.le_trans h.size k.size,fun b hb hn=>(k.other b (Nat.lt_of_lt_of_le hb h.size) (fun e=>by
  rcases hl.has b e with h1 | h1
  ·exact hn h1
  ·omega)).trans (h.other b hb hn)⟩
theorem PPost.pre (hx:Ext w w1) (h:PPost w0 w1 Z P r D' L' P' e w'):PPost w0 w Z P r D' L' P' e w':=by
 obtain ⟨Z',he,hp,hf,hl⟩:=h
 exact ⟨Z',he,hp,(Pfr.ext hx).trans hf (Pk.Later.refl _ _ _),hl.up hx.size⟩
theorem PlAt.of_log (h:PlAt w0 w Z D L P) (hl:LgAt w0 w' X' D' L') (hf:Lfr Z.X w w') (hn:X'.Later Z.X w):PlAt w0 w' { Z with X:=X' } D' L' P∧Pfr Z P w w'∧Pk.Later { Z with X:=X' } P Z P w:=by
 have o:∀k,k < w.heap.size→¬Z.X.has k→w'.heap[k]? =w.heap[k]? :=hf.other
 refine ⟨⟨hl, ?_, ?_, ?_,fun i f hi=> ?_,h.inj,h.base,h.ne⟩,⟨hf.os,hf.tape,hf.output,hf.size,fun k hk hh=>o k hk fun e=>hh (.inl e)⟩,⟨rfl,rfl,rfl,hn,fun k hk=> ?_⟩⟩
 ·have h1:=(o _ h.blk.lt h.not_q).trans h.blk
  have e1:plC { Z with X:=X' } P=plC Z P:=by unfold plC;rw [hn.g,hn.q]
  rw [e1];exact h1
 ·exact h.held.keep (o _ h.held.lt h.not_hb)
 ·exact h.way.keep (o _ h.way.lt h.not_ob)
 ·exact (o _ (h.fr i f hi).lt (h.not_fb hi)).trans (h.fr i f hi)
 ·rcases hk with hk | hk
  ·rcases hn.has k hk with h1 | h1
   ·exact .inl (.inl h1)
   ·exact .inr h1
  ·exact .inl (.inr hk)
theorem own1_ext (h:Ext w0 w) (hk:w0.heap.size≤k) (h1:w'.os=w.os∧w'.tape=w.tape∧w'.output=w.output∧w'.heap.size=w.heap.size) (h2:∀j,j≠k→w'.heap[j]? =w.heap[j]?):Ext w0 w':=
 ⟨h1.1.trans h.os,h1.2.1.trans h.tape,h1.2.2.1.trans h.output,by rw [h1.2.2.2];exact h.size,fun j hj=>(h2 j (by omega)).trans (Below.block h j hj)⟩
theorem cell_rest (w:World) (p:Addr) (v:Value):(w.setCell p v).os=w.os∧(w.setCell p v).tape=w.tape∧(w.setCell p v).output=w.output∧(w.setCell p v).heap.size=w.heap.size:=⟨rfl,rfl,rfl,by simp⟩
theorem PlAt.field (h:PlAt w0 w Z D L P) (i:Nat) (v:Value) (P':Pl) (hH:P'.H=P.H) (hn:P'.n=P.n) (hW:P'.W=P.W) (hm:P'.m=P.m) (hl:(plC Z P).set i v=plC Z P'):PlAt w0 (w.setCell ⟨Z.q,i,none⟩ v) Z D L P':=by
 have o:=fun k (hk:k≠Z.q)=>Below.heap_setCell w ⟨Z.q,i,none⟩ v k hk
 have hx:Ext w0 (w.setCell ⟨Z.q,i,none⟩ v):=own1_ext h.log.ext h.base.1 (cell_rest _ _ _) o
 refine ⟨h.log.keep hx fun k hk=>o k fun e=>h.not_q (e▸hk),by rw [← hl];exact h.blk.set i v, ?_, ?_,fun j f hj=> ?_,fun a b f g ha hb=>h.inj a b f g (by rw [← hH];exact ha) (by rw [← hH];exact hb),⟨h.base.1,h.base.2.1,h.base.2.2.1,fun j f hj=>h.base.2.2.2 j f (by rw [← hH];exact hj)⟩,h.ne⟩
 ·have e:heldM Z P' =heldM Z P:=by unfold heldM;rw [hH]
  rw [e,hn]
  exact h.held.keep (o _ (Ne.symm h.q_hb))
 ·have e:wayM P' =wayM P:=by unfold wayM;rw [hW]
  rw [e,hm]
  exact h.way.keep (o _ (Ne.symm h.q_ob))
 ·rw [hH] at hj
  exact (o _ (Ne.symm (h.q_fb hj))).trans (h.fr j f hj)
theorem PlAt.frame (h:PlAt w0 w Z D L P) (i:Nat) {f f':Fm} (hi:P.H i=some f) (h1:w'.os=w.os∧w'.tape=w.tape∧w'.output=w.output∧w'.heap.size=w.heap.size) (o:∀k,k≠Z.fb i→w'.heap[k]? =w.heap[k]?) (hr:Rw w' (Z.fb i) 103 (frC f')) (P':Pl) (hP:P' = { P with H:=upM P.H i (some f') }):PlAt w0 w' Z D L P':=by
 subst hP
 have hx:Ext w0 w':=own1_ext h.log.ext (h.base.2.2.2 i f hi) h1 o
 have back:∀j g,upM P.H i (some f') j=some g→∃g',P.H j=some g':=fun j g hj=>by
  by_cases e:j=i
  ·subst e;exact ⟨f,hi⟩
  ·rw [upM_other _ _ e] at hj;exact ⟨g,hj⟩
 refine ⟨h.log.keep hx fun k hk=>o k fun e=>h.not_fb hi (e▸hk),(o _ (h.q_fb hi)).trans h.blk, ?_,h.way.keep (o _ (Ne.symm (h.fb_ob hi))),fun j g hj=> ?_,fun a b g g' ha hb=> ?_,⟨h.base.1,h.base.2.1,h.base.2.2.1,fun j g hj=> ?_⟩,h.ne⟩
 ·have e:heldM Z { P with H:=upM P.H i (some f') } =heldM Z P:=by
   funext j
   unfold heldM
   by_cases e:j=i
   ·subst e;simp [upM_same,hi]
   ·simp [upM_other _ _ e]
  rw [e]
  exact h.held.keep (o _ (Ne.symm (h.fb_hb hi)))
 ·by_cases e:j=i
  ·subst e
   simp [upM_same] at hj
   rw [← hj];exact hr
  ·have hj':P.H j=some g:=by rw [← hj];exact (upM_other _ _ e).symm
   exact (o _ (fun e2=>e (h.inj j i g f hj' hi e2))).trans (h.fr j g hj')
 ·obtain ⟨ga,ha'⟩:=back a g ha
  obtain ⟨gb,hb'⟩:=back b g' hb
  exact h.inj a b ga gb ha' hb'
 ·obtain ⟨ga,ha'⟩:=back j g hj
  exact h.base.2.2.2 j ga ha'
theorem upM_nil {α:Type} {m:Nat→Option α} {i j:Nat} {g:α} (hj:upM m i none j=some g):j≠i∧m j=some g:=by
 by_cases e:j=i
 ·subst e;rw [upM_same] at hj;cases hj
 ·rw [upM_other _ _ e] at hj;exact ⟨e,hj⟩
theorem PlAt.drop (h:PlAt w0 w Z D L P) (i:Nat) (ht:w.mapTurned w' Z.hb) (hm:MapI w' ptrR Z.hb (upM (heldM Z P) i none) (P.n - 1)):PlAt w0 w' Z D L (dropP P i):=by
 have o:=mapTurned_other ht
 have hx:Ext w0 w':=own1_ext h.log.ext h.base.2.1 (mapTurned_rest ht) o
 have e:heldM Z (dropP P i)=upM (heldM Z P) i none:=by
  funext j
  unfold heldM dropP
  by_cases e:j=i
  ·subst e;simp [upM_same]
  ·simp [upM_other _ _ e]
 refine ⟨h.log.keep hx fun k hk=>o k fun e=>h.not_hb (e▸hk),(o _ h.q_hb).trans h.blk,by rw [e];exact hm,h.way.keep (o _ (Ne.symm h.ne)),fun j g hj=> ?_,fun a b g g' ha hb=>h.inj a b g g' (upM_nil ha).2 (upM_nil hb).2,⟨h.base.1,h.base.2.1,h.base.2.2.1,fun j g hj=>h.base.2.2.2 j g (upM_nil hj).2⟩,h.ne⟩
 have hj':=(upM_nil hj).2
 exact (o _ (h.fb_hb hj')).trans (h.fr j g hj')
theorem PlAt.bring (h:PlAt w0 w Z D L P) (i:Nat) (hi:P.H i=none) (f:Fm) (b:Nat) (hb:Rw w b 103 (frC f)) (hb0:w0.heap.size≤b) (hnew:∀j g,P.H j=some g→Z.fb j≠b) (ht:w.mapTurned w' Z.hb) (hm:MapI w' ptrR Z.hb (upM (heldM Z P) i (some (.lit (.int .i64 (b:Int))))) (P.n + 1)):
  PlAt w0 w' { Z with fb:=fun j=>if j=i then b else Z.fb j } D L { P with H:=upM P.H i (some f),n:=P.n + 1 }:=by
 have o:=mapTurned_other ht
 have hx:Ext w0 w':=own1_ext h.log.ext h.base.2.1 (mapTurned_rest ht) o
 have hbm:b≠Z.hb:=rw_ne_map hb h.held
 have e:heldM { Z with fb:=fun j=>if j=i then b else Z.fb j } { P with H:=upM P.H i (some f),n:=P.n + 1 } =upM (heldM Z P) i (some (.lit (.int .i64 (b:Int)))):=by
  funext j
  unfold heldM
  by_cases e:j=i
  ·subst e;simp [upM_same]
  ·simp [upM_other _ _ e,e]
 refine ⟨h.log.keep hx fun k hk=>o k fun e=>h.not_hb (e▸hk),(o _ h.q_hb).trans h.blk,by rw [e];exact hm,h.way.keep (o _ (Ne.symm h.ne)),fun j g hj=> ?_,fun a c g g' ha hc hac=> ?_,⟨h.base.1,h.base.2.1,h.base.2.2.1,fun j g hj=> ?_⟩,h.ne⟩
 ·by_cases e:j=i
  ·subst e
   simp [upM_same] at hj
   simp only [if_true]
   rw [← hj]
   exact (o _ hbm).trans hb
  ·have hj':P.H j=some g:=by rw [← hj];exact (upM_other _ _ e).symm
   simp only [if_neg e]
   exact (o _ (h.fb_hb hj')).trans (h.fr j g hj')
 ·by_cases ea:a=i
  ·by_cases ec:c=i
   ·rw [ea,ec]
   ·simp only [if_pos ea,if_neg ec] at hac
    exact absurd hac.symm (hnew c g' (by rw [← hc];exact (upM_other _ _ ec).symm))
  ·by_cases ec:c=i
   ·simp only [if_neg ea,if_pos ec] at hac
    exact absurd hac (hnew a g (by rw [← ha];exact (upM_other _ _ ea).symm))
   ·simp only [if_neg ea,if_neg ec] at hac
    exact h.inj a c g g' (by rw [← ha];exact (upM_other _ _ ea).symm) (by rw [← hc];exact (upM_other _ _ ec).symm) hac
 ·by_cases e:j=i
  ·simp only [if_pos e];exact hb0
  ·simp only [if_neg e]
   exact h.base.2.2.2 j g (by rw [← hj];exact (upM_other _ _ e).symm)
theorem PlAt.wayIs (h:PlAt w0 w Z D L P) (W':Nat→Option Nat) (m':Nat) (ht:w.mapTurned w' Z.ob) (hm:MapI w' u64R Z.ob (wayM { P with W:=W',m:=m' }) m'):PlAt w0 w' Z D L { P with W:=W',m:=m' }:=by
 have o:=mapTurned_other ht
 have hx:Ext w0 w':=own1_ext h.log.ext h.base.2.2.1 (mapTurned_rest ht) o
 exact ⟨h.log.keep hx fun k hk=>o k fun e=>h.not_ob (e▸hk),(o _ h.q_ob).trans h.blk,h.held.keep (o _ h.ne),hm,fun j g hj=>(o _ (h.fb_ob hj)).trans (h.fr j g hj),h.inj,h.base,h.ne⟩
theorem Pfr.one (h1:w'.os=w.os∧w'.tape=w.tape∧w'.output=w.output∧w'.heap.size=w.heap.size) (o:∀j,j≠k→w'.heap[j]? =w.heap[j]?) (hk:Z.has P k):Pfr Z P w w':=
 ⟨h1.1,h1.2.1,h1.2.2.1,Nat.le_of_eq h1.2.2.2.symm,fun j _ hn=>o j fun e=>hn (e▸hk)⟩
theorem Pfr.onMap (ht:w.mapTurned w' k) (hk:Z.has P k):Pfr Z P w w':=Pfr.one (mapTurned_rest ht) (mapTurned_other ht) hk
theorem Pfr.onCell {i:Nat} {v:Value} (hk:Z.has P k):Pfr Z P w (w.setCell ⟨k,i,none⟩ v):=Pfr.one (cell_rest _ _ _) (fun j hj=>Below.heap_setCell w ⟨k,i,none⟩ v j hj) hk
end
theorem fr_get {f:Fm} (h:f.by_.length=504):(frC f)[504]? =some (.int .u64 (f.last:Int))∧(frC f)[505]? =some (.int .u64 (f.hi:Int))∧(frC f)[506]? =some (.bool f.ch)∧(frC f)[507]? =some (.int .u64 (f.since:Int))∧(frC f)[508]? =some (.int .i64 (f.pins:Int))∧(frC f)[509]? =some (.int .i64 (f.used:Int)):=by
 have hl:(bs f.by_).length=504:=by rw [bs_length,h]
 unfold frC
 refine ⟨?_, ?_, ?_, ?_, ?_, ?_⟩ <;> (rw [List.getElem?_append_right (by omega),hl];rfl)
theorem fr_set {f:Fm} (h:f.by_.length=504) (k:Nat) (v:Value):(frC f).set (504 + k) v=bs f.by_ ++ [Value.int .u64 (f.last:Int), .int .u64 (f.hi:Int), .bool f.ch, .int .u64 (f.since:Int), .int .i64 (f.pins:Int), .int .i64 (f.used:Int)].set k v:=by
 have hl:(bs f.by_).length=504:=by rw [bs_length,h]
 unfold frC
 rw [List.set_append_right _ _ (by omega),hl,Nat.add_sub_cancel_left]
theorem fr_len {f:Fm} (h:f.by_.length=504):(frC f).length=510:=by
 unfold frC
 rw [List.length_append,bs_length,h]
 rfl
theorem fr_bytes {w:World} {b:Nat} {f:Fm} (h:f.by_.length=504) (hr:Rw w b 103 (frC f)):Rd w (some ⟨b,0,none⟩) f.by_:=fun _=>⟨b,0,rfl,fun j u hu=>by
 rw [Nat.zero_add]
 refine hr.cell ?_
 unfold frC
 rw [List.getElem?_append_left (by rw [bs_length];exact (List.getElem?_eq_some_iff.1 hu).1),bs_get,hu]
 rfl⟩
def zFm:Fm:=⟨List.replicate 504 0,0,0,false,0,0,0⟩
theorem builtFr:Tryz.prog.built 103 []=some (frC zFm).toArray:=by kernel_rfl
theorem run_all504 (g off:Nat) (w:World):(Instr.sliceAt 101 (.pointer (some ⟨g,off,none⟩)) none none none).run Tryz.prog w= .ok (.slice (some ⟨g,off,none⟩) 504 504) w:=by
 simp [go_sem,Instr.sliceAt]
def fOf (s:List UInt8) (j:Nat):Fm:= { zFm with last:=(num (s.take j)).toNat }
def FmPost (w:World) (f:Fm) (e:Ending) (w':World):Prop:=∃b,e= .returned (.pointer (some ⟨b,0,none⟩))∧Rw w' b 103 (frC f)∧w.heap.size≤b∧Ext w w'
theorem splice_fr (s:List UInt8) (hs:s.length=512):splice (frC (fOf s 8)) 0 (bs (s.drop 8))=frC (frameB s):=by
 unfold splice
 rw [List.take_zero,List.nil_append,bs_length,List.length_drop,hs]
 unfold frC
 rw [List.drop_left' (show (bs (fOf s 8).by_).length=0 + (512 - 8) by rw [bs_length];show (List.replicate 504 (0:UInt8)).length=_;rw [List.length_replicate])]
 rfl
section
variable {w:World}
theorem frameOf_any (A:Option Addr) (c:Nat) (s:List UInt8) (hs:s.length=512) (hc:512≤c) (hr:Rd w A s):Calls Tryz.prog 101 #[.slice A 512 c] w (FmPost w (frameB s)):=by
 have HR:=hide hr
 have HS:=hide hs
 obtain ⟨bb,off,u,rfl,-,-⟩:=hr.at (k:=0) (by omega)
 obtain ⟨zc,HZC⟩:∃zc,Hid ((frC zFm).toArray=zc):=⟨_,hide rfl⟩
 have HBT:=hide builtFr
 rw [HZC.out] at HBT
 obtain ⟨q,HQ⟩:∃q,Hid (w.heap.size=q):=⟨_,hide rfl⟩
 obtain ⟨w1,HW1⟩:∃w1,Hid (w.alloc (.cells zc 103)=w1):=⟨_,hide rfl⟩
 have HX1:Hid (Ext w w1):=hide (by rw [← HW1.out];exact Ext.alloc _ _)
 have HR1:Hid (Rw w1 q 103 (frC (fOf s 0))):=hide (by rw [← HW1.out,← HQ.out,← HZC.out];exact Rw.new w 103 (frC zFm))
 have h8:8≤c:=by omega
 have h8i:(8:Int)≤(c:Int):=by omega
 have HC:=hide hc
 clear hr hs hc
 go_enter Tryz.func101,Tryz.ntmps101
 go_upto_region 3 with (first
  | ((with_reducible show wpList _ _ _ (⟨some 6, .build _ _,_,_,_,_⟩::_) _ _);refine wpList_gives (gives_build rfl zc [] rfl HBT.out ⟨rfl,rfl⟩) rfl ?_)
  | ((with_reducible show wpList _ _ _ (⟨some 7, .box _ _,_,_,_,_⟩::_) _ _);refine wpList_gives (gives_box rfl zc rfl ⟨by rw [HQ.out],HW1.out⟩) rfl ?_))
 clear h8 h8i
 go_loopw [5,11] (fun _ x wr=>∃j:Nat,j≤8∧x= .int .i64 (j:Int)∧Hid (Rw wr q 103 (frC (fOf s j)))∧Hid (Ext w wr)) (fun _ x _=>8 - (intOf x).toNat)
 case atStart=>exact ⟨0,by omega,rfl,HR1,HX1⟩
 case round=>
  obtain ⟨j,hj,rfl,HRJ,HXJ⟩:=hrel
  by_cases hlt:j < 8
  ·have hli:(j:Int) < 8:=by omega
   obtain ⟨b2,off2,x,hA,hx,hcx⟩:=(HR.out.ext HXJ.out).at (k:=j) (by rw [HS.out];omega)
   injection hA with hA
   injection hA with hA1 hA2
   subst hA1 hA2
   have h0:=(num_bound (s.take j)).1
   have h1:=num_take_lt s j (by omega)
   obtain ⟨n,HN⟩:∃n:Nat,Hid ((n:Int)=num (s.take j)):=⟨(num (s.take j)).toNat,hide (by omega)⟩
   have HFL:Hid ((fOf s j).last=n):=hide (by show (num (s.take j)).toNat=n;have:=HN.out;omega)
   have hx2:=x.toNat_lt
   obtain ⟨n2,HN2⟩:∃n2:Nat,Hid ((n2:Int)=(n:Int) * 256 + (x.toNat:Int)):=⟨n * 256 + x.toNat,hide (by omega)⟩
   have hor:bits .or .u64 (IntKind.u64.wrap ((n:Int) * 256)) (IntKind.u64.wrap (x.toNat:Int))=(n2:Int):=by
    rw [or_byte _ _ (by omega) (by have:=HN.out;omega) (by omega) (by omega)];exact HN2.out.symm
   have c504:=HRJ.out.cell (fr_get (f:=fOf s j) (List.length_replicate ..)).1
   rw [HFL.out] at c504
   have f504:=HRJ.out.frozen 504
   have HNS:Hid (num (s.take (j + 1))=(n2:Int)):=hide (by
    have e:=num_step s 0 j x (by rw [Nat.zero_add];exact hx)
    rw [List.drop_zero] at e
    rw [e,← HN.out,HN2.out])
   have hjw:IntKind.i64.wrap ((j:Int) + 1)=((j + 1:Nat):Int):=by rw [IntKind.wrap_i64];omega
   have HJ:=hide hj
   clear h0 h1 hx2 hx hj
   go_wp2
   refine ⟨⟨j + 1,by omega,rfl,hide ?_,hide ?_⟩, ?_⟩
   ·have h:=HRJ.out.set 504 (.int .u64 (n2:Int))
    have e:(frC (fOf s j)).set 504 (.int .u64 (n2:Int))=frC (fOf s (j + 1)):=by
     rw [show 504=504 + 0 from rfl,fr_set (f:=fOf s j) (List.length_replicate ..) 0]
     unfold frC
     show bs zFm.by_ ++ [Value.int .u64 (n2:Int),_,_,_,_,_]=bs zFm.by_ ++ [Value.int .u64 (((num (s.take (j + 1))).toNat:Nat):Int),_,_,_,_,_]
     rw [HNS.out,Int.toNat_natCast]
     rfl
    rw [e] at h
    exact h
   ·exact Below.setCell (p:=⟨q,504,none⟩) HXJ.out (by rw [← HQ.out];exact Nat.le_refl _) _
   ·show 8 - ((j + 1:Nat):Int).toNat < 8 - ((j:Nat):Int).toNat
    omega
  ·obtain rfl:j=8:=by omega
   have h8:8≤c:=by have:=HC.out;omega
   have h8b:8≤512:=by decide
   have h8i:(8:Int)≤(c:Int):=by omega
   have h8c:¬c=8:=by have:=HC.out;omega
   have HRD:Hid (Rd wr (some ⟨bb,off + 8,none⟩) (s.drop 8)):=hide (by have h:=(HR.out.ext HXJ.out).drop 8;rw [add_flat] at h;exact h)
   have HRDL:Hid ((s.drop 8).length=504):=hide (by rw [List.length_drop,HS.out])
   clear hlt
   go_upto_region 7 with fail
   go_region_law (refine step_copy_splice rfl (.tmp 30) (.tmp 32) 22 22 rfl 5 Tryz.underlying22 (by kernel_rfl) (some ⟨q,0,none⟩) (some ⟨bb,off + 8,none⟩) 504 504 504 (c - 8) (by rfl) (by rfl) q 0 (frC (fOf s 8)) 103 (HRJ.out.ext (Ext.drew _)) (bs (s.drop 8)) (by rw [bs_length,HRDL.out];rfl) (fun _=>⟨rfl,copy_src (HRD.out.ext (Ext.drew _)) (by intro e;have h:=HRDL.out;rw [e] at h;cases h)⟩) (by rw [bs_length,HRDL.out,fr_len (f:=fOf s 8) (List.length_replicate ..)];decide) (bs_one _) w.heap.size w (HXJ.out.trans (Ext.drew _)) (by rw [HQ.out];exact Nat.le_refl _) ?_;intro w3 hw3 hb3)
   have HR3:Hid (Rw w3 q 103 (frC (frameB s))):=hide (by
    have h:=hw3.out
    rw [splice_fr s HS.out] at h
    exact h)
   have HX3:=hide hb3
   clear hw3 hb3
   go_wp2
   go_ret
   exact ⟨q,rfl,HR3.out,by rw [HQ.out];exact Nat.le_refl _,HX3.out⟩
end
theorem run_make_room (c:Nat) (hc:c≤281474976710656) (W:World):(Instr.makeSlice 22 (.int .i64 0) (.int .i64 (c:Int))).run Tryz.prog W=
  .ok (.slice (some ⟨W.heap.size,0,none⟩) 0 c) (W.alloc (.cells (madeCells #[.int .u8 0] c) 5)):=by
 obtain ⟨i0,hi,hz0,hz1,hz2⟩:=info_parts info_u8
 have h:=run_make (P:=Tryz.prog) W 22 5 i0 (.int .u8 0) Tryz.underlying22 hi hz0 .i64 .i64 0 (c:Int) (by omega) (by omega) (by rw [hz2];omega) (by omega)
 simpa [hz1,Value.cells] using h
theorem Own.room (W:World) (base c:Nat) (hb:base≤W.heap.size) (hc:c≤281474976710656):Own (W.alloc (.cells (madeCells #[.int .u8 0] c) 5)) base (.slice (some ⟨W.heap.size,0,none⟩) 0 c) []:=
 World.ownsRow_made W _ c hb (by unfold maxLen;omega) (by simp [madeCells])
section
variable {w:World}
theorem fsector_any (b:Nat) (f:Fm) (h5:f.by_.length=504) (hl:f.last < 18446744073709551616) (hr:Rw w b 103 (frC f)):Calls Tryz.prog 110 #[.pointer (some ⟨b,0,none⟩)] w (Ret w (Bytes (secB f))):=by
 have HR:=hide hr
 have H5:=hide h5
 have HRB:=hide (fr_bytes h5 hr)
 obtain ⟨u,HU⟩:∃u:Int,Hid ((f.last:Int)=u):=⟨_,hide rfl⟩
 have HU0:Hid (0≤u∧u < 18446744073709551616):=hide (by have:=HU.out;omega)
 have HSB:Hid (secB f=be64 u ++ f.by_):=hide (by unfold secB;rw [HU.out])
 have KC:Hid (∀W,Ext w W→W.cell? ⟨b,504,none⟩=some (.int .u64 u)):=hide (fun W hW=>by rw [← HU.out];exact (hr.ext hW).cell (fr_get h5).1)
 obtain ⟨w1,HW1⟩:∃w1,Hid (w.alloc (.cells (madeCells #[.int .u8 0] 512) 5)=w1):=⟨_,hide rfl⟩
 have HM:Hid ((Instr.makeSlice 22 (.int .i64 0) (.int .i64 512)).run Tryz.prog w= .ok (.slice (some ⟨w.heap.size,0,none⟩) 0 512) w1):=hide (by rw [← HW1.out];exact run_make_room 512 (by omega) w)
 have HO1:Hid (Own w1 w.heap.size (.slice (some ⟨w.heap.size,0,none⟩) 0 512) []):=hide (by rw [← HW1.out];exact Own.room _ _ _ (Nat.le_refl _) (by omega))
 have HX1:Hid (Below w.heap.size w w1):=hide (by rw [← HW1.out];exact (Below.refl _ _).alloc (Nat.le_refl _) _)
 clear hr h5 hl
 go_enter Tryz.func110,Tryz.ntmps110
 have c504:=KC.out w (Ext.refl _)
 go_upto_region 3 with ((with_reducible show wpList _ _ _ (⟨some 5,_,_,_,_,_⟩::_) _ _);refine wpList_gives (gives_make rfl rfl rfl HM.out ⟨rfl,rfl⟩) rfl ?_)
 refine wp_loop_rounds 9 ?_
 have hown:=HO1.out
 have hb:=HX1.out
 clear c504
 have c504:=KC.out _ hb
 have hu0:=HU0.out.1
 have hu1:=HU0.out.2
 iterate 8
  rw [rounds_succ]
  go_wp2_with (at_builtin;refine wpList_push rfl (.tmp 10) (.tmp 18) rfl w.heap.size _ _ rfl rfl (by assumption) (by omega) (by omega) (Below.size hb) (by simp) ?_;intro v1 w1 hown1 hb1;replace hb:=Below.trans hb hb1;clear hb1 c504;have c504:=KC.out _ hb)
 rw [rounds_succ]
 go_wp2_with (first
  | ((with_reducible show wpList _ _ _ (⟨some 24,_,_,_,_,_⟩::_) _ _);refine wpList_gives (gives_cutall rfl rfl (run_all504 _ _ _) ⟨rfl,rfl⟩) rfl ?_)
  | (at_builtin;refine wpList_cat rfl (.tmp 20) (.tmp 24) rfl w.heap.size _ _ f.by_ (some ⟨b,0,none⟩) 504 504 rfl rfl H5.out.symm (by assumption) (HRB.out.ext hb) (Below.size hb) (by rw [H5.out];simp) ?_;intro v9 w9 hown9 hb9))
 go_ret
 refine Ret.mk (Below.trans hb hb9) ?_
 have e:be64 u= [] ++ [b8 (u / 72057594037927936)] ++ [b8 (u / 281474976710656 % 256)] ++ [b8 (u / 1099511627776 % 256)] ++ [b8 (u / 4294967296 % 256)] ++
   [b8 (u / 16777216 % 256)] ++ [b8 (u / 65536 % 256)] ++ [b8 (u / 256 % 256)] ++ [b8 (u % 256)]:=by
  have e:u / 72057594037927936 % 256=u / 72057594037927936:=by omega
  simp [be64,e]
 rw [HSB.out,e]
 exact hown9.bytes
theorem phas_any {w0:World} {Z:Pk} {D:Dk} {L:Lg} {P:Pl} (h:PlAt w0 w Z D L P) (i:Int):Calls Tryz.prog 99 #[.pointer (some ⟨Z.q,0,none⟩), .int .i64 i] w (Same w (.bool (decide (0≤i) && decide (i < (P.pages:Int))))):=by
 have c3:=h.blk.cell (i:=3) rfl
 clear h
 go_enter Tryz.func99,Tryz.ntmps99
 by_cases hi:0≤i
 ·go_wp2
  go_ret
  exact ⟨by simp [hi],rfl⟩
 ·go_wp2
  go_ret
  exact ⟨by rw [decide_eq_false (show ¬(0≤i) by omega)];rfl,rfl⟩
end
def cut504 (b k:Nat):Addr:=if 504=k then ⟨b,0,none⟩ else ⟨b,k,none⟩
theorem run_cut504 (b k:Nat) (hk:k≤504) (w:World):(Instr.sliceAt 101 (.pointer (some ⟨b,0,none⟩)) (some (.int .i64 (k:Int))) none none).run Tryz.prog w= .ok (.slice (some (cut504 b k)) (504 - k) (504 - k)) w:=by
 obtain ⟨q,hq,hs⟩:=byteInfo
 simp [Instr.sliceAt,run_underlying Tryz.underlying101,Instr.sureAddr,Instr.sliceBounds,Instr.sliceBound,asIntOf,hk,sizeOf,typeInfo,hq,hs,cut504,add_flat]
theorem gives_copy {P:Program} {o:Oper} {a:Act} {w:World} {R:Value→World→Prop} {s x:Operand} {t t2:TypeId} {u y v:Value} {w':World} (h:o.op= .call { callee:= .builtin .copy,args:= #[s,x],argTypes:= #[t,t2] }) (hs:a.eval s=u) (hx:a.eval x=y)
  (hrun:(Builtin.copy_ #[t,t2] o.type #[u,y]).run P w= .ok v w') (hR:R v w'):gives P o a w R:=by
 refine gives_of_run (w':=w') (v:=v) ?_ hR
 unfold execOp
 simp only [h,resolve,invoke,builtin,Sem.run_bind,Sem.run_pure,Result.andThen_ok,List.map_toArray,List.map_cons,List.map_nil,hs,hx,hrun]
theorem row_rest (w:World) (b:Nat) (cs:Array Value):(w.setRow b cs).os=w.os∧(w.setRow b cs).tape=w.tape∧(w.setRow b cs).output=w.output∧(w.setRow b cs).heap.size=w.heap.size:=⟨rfl,rfl,rfl,by simp [World.setRow]⟩
structure One (b:Nat) (w w':World):Prop where
 rest:w'.os=w.os∧w'.tape=w.tape∧w'.output=w.output∧w'.heap.size=w.heap.size
 other:∀k,k≠b→w'.heap[k]? =w.heap[k]?
theorem One.refl (b:Nat) (w:World):One b w w:=⟨⟨rfl,rfl,rfl,rfl⟩,fun _ _=>rfl⟩
theorem One.trans {b:Nat} {w w1 w2:World} (h:One b w w1) (k:One b w1 w2):One b w w2:=⟨⟨k.rest.1.trans h.rest.1,k.rest.2.1.trans h.rest.2.1,k.rest.2.2.1.trans h.rest.2.2.1,k.rest.2.2.2.trans h.rest.2.2.2⟩,fun j hj=>(k.other j hj).trans (h.other j hj)⟩
theorem One.cell (b:Nat) (w:World) (i:Nat) (v:Value):One b w (w.setCell ⟨b,i,none⟩ v):=⟨cell_rest _ _ _,fun k hk=>Below.heap_setCell w ⟨b,i,none⟩ v k hk⟩
theorem One.row (b:Nat) (w:World) (cs:Array Value):One b w (w.setRow b cs):=⟨row_rest _ _ _,fun k hk=>setRow_other w b k cs hk⟩
theorem splice_over (f:Fm) (h5:f.by_.length=504) (off:Nat) (m:List UInt8) (hm:off + m.length≤504):splice (frC f) off (bs m)=frC { f with by_:=over f.by_ off m }:=by
 unfold splice frC over
 rw [List.take_append_of_le_length (by rw [bs_length];omega),bs_length,List.drop_append_of_le_length (by rw [bs_length];omega)]
 simp [bs,List.append_assoc]
theorem copy_fr {w:World} {b:Nat} {f:Fm} (h5:f.by_.length=504) (hr:Rw w b 103 (frC f)) (off:Nat) (A:Option Addr) (m:List UInt8) (n c:Nat) (hn:m.length=n) (hm:off + n≤504) (hA:Rd w A m) (ty:TypeId):
  ∃w',(Builtin.copy_ #[22,22] ty #[.slice (some (cut504 b off)) (504 - off) (504 - off), .slice A n c]).run Tryz.prog w= .ok (goInt (n:Int)) w'∧Rw w' b 103 (frC { f with by_:=over f.by_ off m })∧One b w w':=by
 subst hn
 by_cases h0:m= []
 ·subst h0
  refine ⟨w,run_copy_none w _ _ ty 5 _ _ _ _ _ _ Tryz.underlying22 info_size (by show Nat.min 0 _=0;exact Nat.zero_min _), ?_,One.refl _ _⟩
  have e:over f.by_ off []=f.by_:=by unfold over;simp
  rw [e];exact hr
 ·have hp:0 < m.length:=List.length_pos_iff.2 h0
  have hc:cut504 b off=⟨b,off,none⟩:=by unfold cut504;rw [if_neg (by omega)]
  obtain ⟨ad,rfl,hsrc⟩:=copy_src hA h0
  have hrun:=run_copy_row (P:=Tryz.prog) w 22 22 ty 5 b off (504 - off) (504 - off) ad m.length c (frC f).toArray 103 (bs m) Tryz.underlying22 info_size hr (by rw [bs_length];exact (Nat.min_eq_left (by omega)).symm) hsrc (by rw [bs_length];show off + m.length≤(frC f).length;rw [fr_len h5];omega) (bs_one _)
  rw [bs_length] at hrun
  refine ⟨_,by rw [hc];exact hrun, ?_,One.row _ _ _⟩
  have h2:=setRow_heap w b _ ((frC f).take off ++ bs m ++ (frC f).drop (off + m.length)).toArray 103 _ hr
  have e:=splice_over f h5 off m hm
  unfold splice at e
  rw [bs_length,← List.append_assoc] at e
  have h3:(w.setRow b ((frC f).take off ++ bs m ++ (frC f).drop (off + m.length)).toArray).heap[b]? =some (.cells (frC { f with by_:=over f.by_ off m }).toArray 103 (0,0)):=by rw [h2,e]
  exact h3
theorem fr_last {f:Fm} (h:f.by_.length=504) (n:Nat):(frC f).set 504 (.int .u64 (n:Int))=frC { f with last:=n }:=fr_set h 0 _
theorem fr_hi {f:Fm} (h:f.by_.length=504) (n:Nat):(frC f).set 505 (.int .u64 (n:Int))=frC { f with hi:=n }:=fr_set h 1 _
theorem fr_ch {f:Fm} (h:f.by_.length=504) (n:Bool):(frC f).set 506 (.bool n)=frC { f with ch:=n }:=fr_set h 2 _
theorem fr_since {f:Fm} (h:f.by_.length=504) (n:Nat):(frC f).set 507 (.int .u64 (n:Int))=frC { f with since:=n }:=fr_set h 3 _
theorem fr_used {f:Fm} (h:f.by_.length=504) (n:Nat):(frC f).set 509 (.int .i64 (n:Int))=frC { f with used:=n }:=fr_set h 5 _
def chF (f:Fm) (off:Nat) (m:List UInt8) (lsn:Nat):Fm:= { f with by_:=over f.by_ off m,last:=lsn,hi:=max f.hi lsn,ch:=true,since:=if f.ch=true then f.since else lsn }
section
variable {w:World}
theorem change_any (b:Nat) (f:Fm) (h5:f.by_.length=504) (hr:Rw w b 103 (frC f)) (off:Nat) (A:Option Addr) (m:List UInt8) (n c:Nat) (hn:m.length=n) (hm:off + n≤504) (hA:Rd w A m) (lsn:Nat):
  Calls Tryz.prog 120 #[.pointer (some ⟨b,0,none⟩), .int .i64 (off:Int), .slice A n c, .int .u64 (lsn:Int)] w (fun e w' =>e= .returned (.tuple #[])∧Rw w' b 103 (frC (chF f off m lsn))∧One b w w'):=by
 obtain ⟨w1,hrun,hr1,ho1⟩:=copy_fr h5 hr off A m n c hn hm hA 3
 have HRUN:=hide hrun
 have HR1:=hide hr1
 have HO1:=hide ho1
 have HCT:=hide (run_cut504 b off (by omega) w)
 have H5:Hid ((over f.by_ off m).length=504):=hide (by rw [over_length _ _ _ (by omega),h5])
 obtain ⟨f1,HF1⟩:∃f1:Fm,Hid ({ f with by_:=over f.by_ off m } =f1):=⟨_,hide rfl⟩
 have H51:Hid (f1.by_.length=504):=hide (by rw [← HF1.out];exact H5.out)
 have HFC:Hid (chF f off m lsn= { f1 with last:=lsn,hi:=max f1.hi lsn,ch:=true,since:=if f1.ch=true then f1.since else lsn }):=hide (by rw [← HF1.out];rfl)
 rw [HFC.out]
 rw [HF1.out] at HR1
 obtain ⟨-,c5,c6,-⟩:=fr_get H51.out
 have k5:=HR1.out.cell c5
 have k6:=HR1.out.cell c6
 have z4:=HR1.out.frozen 504
 have z5:=HR1.out.frozen 505
 have z6:=HR1.out.frozen 506
 have z7:=HR1.out.frozen 507
 obtain ⟨d4,d5,d6,d7,-⟩:=fr_get H51.out
 have k4:=HR1.out.cell d4
 have k7:=HR1.out.cell d7
 clear c5 c6 d4 d5 d6 d7 hrun hr1 ho1 hm hA hr h5 hn
 go_enter Tryz.func120,Tryz.ntmps120
 obtain ⟨mx,HMX⟩:∃mx:Nat,Hid (max f1.hi lsn=mx):=⟨_,hide rfl⟩
 have hmx:∀(inst:Decidable ((f1.hi:Int) < (lsn:Int))), @ite Int ((f1.hi:Int) < (lsn:Int)) inst (lsn:Int) (f1.hi:Int)=(mx:Int):=by
  intro inst
  have h:=HMX.out
  split <;> omega
 have hmx2:∀(inst:Decidable (f1.hi < lsn)), @ite Int (f1.hi < lsn) inst (lsn:Int) (f1.hi:Int)=(mx:Int):=by
  intro inst
  have h:=HMX.out
  split <;> omega
 rw [HMX.out]
 cases hch:f1.ch with
 | true=>
  rw [hch] at k6
  have HCH:=hide hch
  clear hch
  go_wp2_with (first
   | ((with_reducible show wpList _ _ _ (⟨some 12,_,_,_,_,_⟩::_) _ _);refine wpList_gives (gives_fromV rfl rfl rfl HCT.out ⟨rfl,rfl⟩) rfl ?_)
   | ((with_reducible show wpList _ _ _ (⟨some 14,_,_,_,_,_⟩::_) _ _);refine wpList_gives (gives_copy (s:= .tmp 12) (x:= .tmp 13) rfl rfl rfl HRUN.out ⟨rfl,rfl⟩) rfl ?_))
  go_end0
  refine ⟨rfl, ?_,(HO1.out.trans (One.cell ..)).trans (One.cell ..)⟩
  have h:=(HR1.out.set 504 (.int .u64 (lsn:Int))).set 505 (.int .u64 (mx:Int))
  rw [fr_last H51.out,fr_hi (f:= { f1 with last:=lsn }) H51.out] at h
  have e:({ f1 with last:=lsn,hi:=mx,ch:=true,since:=f1.since }:Fm)= { f1 with last:=lsn,hi:=mx }:=by
   have h:=HCH.out
   cases f1
   simp only at h
   subst h
   rfl
  rw [e]
  exact h
 | false=>
  rw [hch] at k6
  clear hch
  go_wp2_with (first
   | ((with_reducible show wpList _ _ _ (⟨some 12,_,_,_,_,_⟩::_) _ _);refine wpList_gives (gives_fromV rfl rfl rfl HCT.out ⟨rfl,rfl⟩) rfl ?_)
   | ((with_reducible show wpList _ _ _ (⟨some 14,_,_,_,_,_⟩::_) _ _);refine wpList_gives (gives_copy (s:= .tmp 12) (x:= .tmp 13) rfl rfl rfl HRUN.out ⟨rfl,rfl⟩) rfl ?_))
  go_end0
  refine ⟨rfl, ?_,(((HO1.out.trans (One.cell ..)).trans (One.cell ..)).trans (One.cell ..)).trans (One.cell ..)⟩
  have h:=(((HR1.out.set 504 (.int .u64 (lsn:Int))).set 505 (.int .u64 (mx:Int))).set 506 (.bool true)).set 507 (.int .u64 (lsn:Int))
  rw [fr_last H51.out,fr_hi (f:= { f1 with last:=lsn }) H51.out,fr_ch (f:= { f1 with last:=lsn,hi:=mx }) H51.out,fr_since (f:= { f1 with last:=lsn,hi:=mx,ch:=true }) H51.out] at h
  exact h
end
open Go.Maps (Keyed)
section
variable {P:Program} (w:World) {ops:Array Oper} {rest:List Oper} {o:Oper} {a:Act} {Q:Exit→Act→World→Prop}
theorem wpList_next_map (hg:o.guard=none) (it:Operand) (hop:o.op=Op.next it false) (R:Value→Option (DataW Unit×List MemPlace)) (b r n:Nat) (D:DataW Unit) (m:Nat→Option (DataW Unit)) (sz:Nat) (hD:Reads D m sz)
  (val:Nat→Value) (hval:∀i d v y,m i=some d→R v=some y→y.1=d→v=val i) (left:Lit→Bool) (cnt:Nat)
  (hit:a.eval it= .pointer (some ⟨r,0,none⟩)) (h:w.ranges Tryz.prog 3 R b r n D left cnt)
  (hDone:cnt=0→(∀kl,left kl=false)→wpList Tryz.prog ops Q rest (a.put o.dst (.tuple #[.bool false])) w)
  (hMore:∀(i:Nat) (w':World) (cnt':Nat),(m i).isSome=true→i < 100000→left (ik i)=true→w'.ranges Tryz.prog 3 R b r n D (fun z=>left z && !z.sameKey (ik i)) cnt'→cnt' < cnt→
   w.grownBy w' (some r)→w'.heap.size=w.heap.size→(Instr.entry (.pointer (some ⟨r,0,none⟩))).run Tryz.prog w' = .ok (.tuple #[.int .i64 (i:Int),val i]) w'→wpList Tryz.prog ops Q rest (a.put o.dst (.tuple #[.bool true, .int .i64 (i:Int),val i])) w'):
  wpList Tryz.prog ops Q (o::rest) a w:=by
 refine wpList_plain hg fun K' hK' => ?_
 unfold Oper.wp
 rcases h.next intK o.type with ⟨h0,hl,hrun⟩ | ⟨key,v,kl,y,w',cnt',hkey,hlk,hv,hat,hrun,hrg,hlt,hgr,hsz,hen⟩
 ·simp [execOp,hop,hit,hrun,Result.andThen]
  exact hK' _ _ (hDone h0 hl)
 ·obtain ⟨i,hi,rfl⟩:=hD.key kl (Maps.has_true_of_atKey hat)
  obtain ⟨x,rfl,ex,-⟩:=Maps.keyOf_int_inv Tryz.underlying3 hkey
  have ex2:x=(i:Int):=(congrArg (fun l=>match l with | Lit.int _ z=>z | _=>0) ex).symm
  subst ex2
  have hs:=hD.has i
  rw [Maps.has_true_of_atKey hat] at hs
  obtain ⟨d,hd⟩:=Option.isSome_iff_exists.1 hs.symm
  have hy:y.1=d:=by rw [← hat (.map []),hD.at_ i d hd]
  obtain rfl:=hval i d v y hd hv hy
  simp [execOp,hop,hit,hrun,Result.andThen]
  exact hK' _ _ (hMore i w' cnt' hs.symm hi hlk hrg hlt hgr hsz hen)
end
theorem Ext.of_grown {w w':World} (h:w.grownBy w' none):Ext w w':=⟨h.os,h.tape,h.output,h.size,fun k hk=>h.block k hk (by simp)⟩
theorem Ext.grown {w w1 w2:World} {r:Nat} (h:Ext w w1) (k:w1.grownBy w2 (some r)) (hr:w.heap.size≤r):Ext w w2:=
 ⟨k.os.trans h.os,k.tape.trans h.tape,k.output.trans h.output,Nat.le_trans h.size k.size,fun j hj=>(k.block j (Nat.lt_of_lt_of_le hj h.size) (by intro e;injection e with e;omega)).trans (Below.block h j hj)⟩
theorem sameKey_ik {i j:Nat}:(ik j).sameKey (ik i)=true↔j=i:=by
 constructor
 ·intro h;exact ik_inj (WideAt.sameKey_eq h)
 ·intro h
  subst h
  by_cases hj:j < 100000
  ·exact WideAt.sameKey_self (ik_lit j hj)
  ·unfold ik Lit.sameKey
   simp
section
variable {w0 w:World} {Z:Pk} {D:Dk} {L:Lg} {P:Pl}
def IdR (P:Pl) (left:Lit→Bool) (l:Int) (fd:Bool):Prop:=
 (fd=false∧l=0∧∀i f,P.H i=some f→left (ik i)=false→f.pins≠0)∨
 (fd=true∧∃(j:Nat) (f:Fm),l=(j:Int)∧P.H j=some f∧f.pins=0∧∀i g,P.H i=some g→left (ik i)=false→g.pins=0→f.used≤g.used)
def idlV (P:Pl):Value:=match idle P.H P.pages with
 | none=> .tuple #[.int .i64 0, .bool false]
 | some i=> .tuple #[.int .i64 (i:Int), .bool true]
theorem ptr_val (Z:Pk) (P:Pl):∀i d v y,heldM Z P i=some d→ptrR v=some y→y.1=d→v= .pointer (some ⟨Z.fb i,0,none⟩):=fun i d v y hm hv hy=>by
 unfold heldM at hm
 cases hH:P.H i with
 | none=>rw [hH] at hm;cases hm
 | some f=>
  rw [hH] at hm
  have hm:DataW.lit (.int .i64 (Z.fb i:Int))=d:=Option.some.inj hm
  obtain ⟨y1,y2⟩:=y
  exact ptrR_is (b:=Z.fb i) (by rw [hv,hm];exact congrArg (fun x=>some (x,y2)) hy)
theorem idle_any {nd:Nat} (h:PlAt w0 w Z D L P) (ok:P.Ok nd):Calls Tryz.prog 127 #[.pointer (some ⟨Z.q,0,none⟩)] w (fun e w' =>e= .returned (idlV P)∧Ext w w'):=by
 have H:=hide h
 have OK:=hide ok
 obtain ⟨Dt,hown,hreads⟩:=h.held
 have HRD:=hide hreads
 have c5:=h.blk.cell (i:=5) rfl
 obtain ⟨r,HR⟩:∃r,Hid (w.heap.size=r):=⟨_,hide rfl⟩
 clear h ok hreads
 go_enter Tryz.func127,Tryz.ntmps127
 go_wp2_with (at_range;refine wpList_range_own _ rfl _ 85 rfl 3 97 intK Tryz.underlying85 ptrR Z.hb P.n Dt rfl hown ?_;intro w1 hrg1 hg1 hs1;have HRG1:=hide hrg1;have HX1:=hide (Ext.of_grown hg1);clear hrg1 hg1 hs1)
 go_frame
 rw [HR.out] at HRG1 ⊢
 clear c5 hown
 go_loopw [4,5] (fun l fd wr=>∃(lv:Int) (fv:Bool) (left:Lit→Bool) (cnt:Nat),l= .int .i64 lv∧fd= .bool fv∧Hid (wr.ranges Tryz.prog 3 ptrR Z.hb r P.n Dt left cnt)∧Hid (Ext w wr)∧Hid (IdR P left lv fv)) (fun _ _ wr=>wr.rangeLeft Z.hb r)
 case atStart=>
  refine ⟨0,false,_,_,rfl,rfl,HRG1,HX1,hide (.inl ⟨rfl,rfl,fun i f hi hl=> ?_⟩)⟩
  have h1:=HRD.out.has i
  rw [hl] at h1
  have h2:(heldM Z P i).isSome=true:=by unfold heldM;rw [hi];rfl
  rw [h2] at h1
  cases h1
 case round=>
  obtain ⟨lv,fv,left,cnt,rfl,rfl,HRG,HX,HI⟩:=hrel
  go_wp2_with (first
   | (at_next;refine wpList_next_map _ rfl (.tmp 12) rfl ptrR Z.hb r P.n Dt (heldM Z P) P.n HRD.out (fun i=> .pointer (some ⟨Z.fb i,0,none⟩)) (ptr_val Z P) left cnt rfl HRG.out ?_ ?_)
   | go_in)
  ·intro _ hl0
   have HL0:=hide hl0
   clear hl0
   go_wp2
   go_ret2
   refine ⟨?_,HX.out⟩
   unfold idlV
   rcases HI.out with ⟨rfl,rfl,h1⟩ | ⟨rfl,j,f,rfl,h1,h2,h3⟩
   ·rw [idle_none fun i f hi=>h1 i f hi (HL0.out _)]
    rfl
   ·rw [idle_some OK.out h1 h2 fun i g hi hp=>h3 i g hi (HL0.out _) hp]
    rfl
  ·intro i w2 cnt2 hsm hi5 hlk hrg2 hlt hgr hsz hen
   obtain ⟨f,hf⟩:∃f,P.H i=some f:=by
    unfold heldM at hsm
    cases hq:P.H i with
    | none=>rw [hq] at hsm;cases hsm
    | some f=>exact ⟨f,rfl⟩
   have HX2:Hid (Ext w w2):=hide (HX.out.grown hgr (Nat.le_of_eq HR.out))
   have HRG2:=hide hrg2
   have HLT:=hide hlt
   have HLK:=hide hlk
   have H2:=hide (H.out.ext_ HX2.out)
   have f5:=(OK.out.page i f hf).2.by_
   have HF:=hide hf
   obtain ⟨-,-,-,-,g8,g9⟩:=fr_get f5
   have k8:=(H2.out.fr i f hf).cell g8
   have k9:=(H2.out.fr i f hf).cell g9
   have k5:=H2.out.blk.cell (i:=5) rfl
   clear hsm hi5 hlk hrg2 hlt hgr hsz f5 g8 g9 hf
   have HS:Hid (∀kl,(left kl && !kl.sameKey (ik i))=false↔left kl=false∨kl=ik i):=hide (fun kl=>by
    cases hl:left kl with
    | false=>simp
    | true=>
     simp only [Bool.true_and,Bool.not_eq_false']
     constructor
     ·intro h;exact .inr (WideAt.sameKey_eq h)
     ·intro h
      rcases h with h | h
      ·cases h
      ·subst h;exact sameKey_ik.2 rfl)
   obtain ⟨pn,HPN⟩:∃pn,Hid (f.pins=pn):=⟨_,hide rfl⟩
   obtain ⟨us,HUS⟩:∃us,Hid (f.used=us):=⟨_,hide rfl⟩
   rw [HPN.out] at k8
   rw [HUS.out] at k9
   have HMS:Hid (∀n,(w2.drewN n).rangeLeft Z.hb r < wr.rangeLeft Z.hb r):=hide (fun n=>by
    show w2.rangeLeft Z.hb r < _
    rw [HRG2.out.left_eq,HRG.out.left_eq];exact HLT.out)
   have HRN:Hid (∀n,(w2.drewN n).ranges Tryz.prog 3 ptrR Z.hb r P.n Dt (fun z=>left z && !z.sameKey (ik i)) cnt2):=hide (fun n=>HRG2.out)
   have HXN:Hid (∀n,Ext w (w2.drewN n)):=hide (fun n=>HX2.out.drewN n)
   rcases HI.out with ⟨rfl,rfl,h1⟩ | ⟨rfl,j,g,rfl,h1,h2,h3⟩
   ·have H1:=hide h1
    clear h1
    by_cases hp:pn=0
    ·subst hp
     go_upto_region 5 with fail
     go_quiet (fail)
     go_wp2
     refine ⟨⟨(i:Int),true,_,cnt2,rfl,rfl,hide (HRN.out _),hide (HXN.out _),hide (.inr ⟨rfl,i,f,rfl,HF.out,HPN.out,fun i2 g hi2 hl2 hg2=> ?_⟩)⟩,HMS.out _⟩
     rcases (HS.out _).1 hl2 with h | h
     ·exact absurd hg2 (H1.out i2 g hi2 h)
     ·obtain rfl:=ik_inj h
      rw [HF.out] at hi2
      injection hi2 with hi2
      rw [hi2];exact Nat.le_refl _
    ·have hp2:((pn:Int)==0)=false:=by simp;omega
     go_upto_region 5 with fail
     go_quiet (fail)
     go_wp2
     refine ⟨⟨0,false,_,cnt2,rfl,rfl,hide (HRN.out _),hide (HXN.out _),hide (.inl ⟨rfl,rfl,fun i2 g hi2 hl2=> ?_⟩)⟩,HMS.out _⟩
     rcases (HS.out _).1 hl2 with h | h
     ·exact H1.out i2 g hi2 h
     ·obtain rfl:=ik_inj h
      rw [HF.out] at hi2
      injection hi2 with hi2
      rw [← hi2,HPN.out];exact hp
   ·have H1:=hide h1
    have H23:Hid (g.pins=0∧∀i g2,P.H i=some g2→left (ik i)=false→g2.pins=0→g.used≤g2.used):=hide ⟨h2,h3⟩
    have hj:=(OK.out.page j g h1)
    obtain ⟨-,-,-,-,-,m9⟩:=fr_get hj.2.by_
    have k19:=(H2.out.fr j g h1).cell m9
    obtain ⟨ug,HUG⟩:∃ug,Hid (g.used=ug):=⟨_,hide rfl⟩
    rw [HUG.out] at k19
    have hj5:j < 100000:=HRD.out.lt (i:=j) (d:= .lit (.int .i64 (Z.fb j:Int))) (by unfold heldM;rw [h1];rfl)
    obtain ⟨v,ps,hlk0,hv⟩:=H2.out.held.look (t:=85) (e:=97) Tryz.underlying85 (z:= .pointer none) (by kernel_rfl) (zd:= .lit (.int .i64 (-1))) (zp:= []) rfl j hj5
    have hm:heldM Z P j=some (.lit (.int .i64 (Z.fb j:Int))):=by unfold heldM;rw [h1];rfl
    rw [hm] at hv
    obtain rfl:=ptrR_is hv
    have hlk:∀n,(Instr.lookup 85 (.map (some Z.hb)) (.int .i64 (j:Int)) false).run Tryz.prog (w2.drewN n)= .ok (.pointer (some ⟨Z.fb j,0,none⟩)) (w2.drewN n):=fun n=>by
     obtain ⟨v,ps,hlk,hv⟩:=(H2.out.ext_ ((Ext.refl _).drewN n)).held.look (t:=85) (e:=97) Tryz.underlying85 (z:= .pointer none) (by kernel_rfl) (zd:= .lit (.int .i64 (-1))) (zp:= []) rfl j hj5
     rw [hm] at hv
     rw [hlk,ptrR_is hv]
    clear hlk0 h1 h2 h3 hj m9 hj5 hv hm
    by_cases hp:pn=0
    ·subst hp
     by_cases hu:us < ug
     ·have hui:decide ((us:Int) < (ug:Int))=true:=decide_eq_true (by omega)
      have hun:decide (us < ug)=true:=decide_eq_true hu
      have HU:=hide hu
      clear hu
      go_upto_region 5 with fail
      go_quiet (fail)
      go_wp2
      refine ⟨⟨(i:Int),true,_,cnt2,rfl,rfl,hide (HRN.out _),hide (HXN.out _),hide (.inr ⟨rfl,i,f,rfl,HF.out,HPN.out,fun i2 g2 hi2 hl2 hg2=> ?_⟩)⟩,HMS.out _⟩
      rcases (HS.out _).1 hl2 with h | h
      ·have e1:=H23.out.2 i2 g2 hi2 h hg2
       have e2:=HU.out
       have e3:=HUS.out
       have e4:=HUG.out
       omega
      ·obtain rfl:=ik_inj h
       rw [HF.out] at hi2
       injection hi2 with hi2
       rw [hi2];exact Nat.le_refl _
     ·have hui:decide ((us:Int) < (ug:Int))=false:=decide_eq_false (by omega)
      have hun:decide (us < ug)=false:=decide_eq_false hu
      have HU:=hide hu
      clear hu
      go_upto_region 5 with fail
      go_quiet (fail)
      go_wp2
      refine ⟨⟨(j:Int),true,_,cnt2,rfl,rfl,hide (HRN.out _),hide (HXN.out _),hide (.inr ⟨rfl,j,g,rfl,H1.out,H23.out.1,fun i2 g2 hi2 hl2 hg2=> ?_⟩)⟩,HMS.out _⟩
      rcases (HS.out _).1 hl2 with h | h
      ·exact H23.out.2 i2 g2 hi2 h hg2
      ·obtain rfl:=ik_inj h
       rw [HF.out] at hi2
       injection hi2 with hi2
       rw [← hi2,HUS.out,HUG.out]
       have:=HU.out
       omega
    ·have hp2:((pn:Int)==0)=false:=by simp;omega
     have HP:=hide hp
     clear hp
     go_upto_region 5 with fail
     go_quiet (fail)
     go_wp2
     refine ⟨⟨(j:Int),true,_,cnt2,rfl,rfl,hide (HRN.out _),hide (HXN.out _),hide (.inr ⟨rfl,j,g,rfl,H1.out,H23.out.1,fun i2 g2 hi2 hl2 hg2=> ?_⟩)⟩,HMS.out _⟩
     rcases (HS.out _).1 hl2 with h | h
     ·exact H23.out.2 i2 g2 hi2 h hg2
     ·obtain rfl:=ik_inj h
      rw [HF.out] at hi2
      injection hi2 with hi2
      rw [← hi2,HPN.out] at hg2
      exact absurd hg2 HP.out
end
theorem gives_bi1 {P:Program} {o:Oper} {a:Act} {w:World} {R:Value→World→Prop} {x:Operand} {t:TypeId} {u v:Value} {w':World} (h:o.op= .call { callee:= .builtin .clear,args:= #[x],argTypes:= #[t] }) (hx:a.eval x=u)
  (hrun:(Builtin.clear_ #[t] o.type #[u]).run P w= .ok v w') (hR:R v w'):gives P o a w R:=by
 refine gives_of_run (w':=w') (v:=v) ?_ hR
 unfold execOp
 simp only [h,resolve,invoke,builtin,Sem.run_bind,Sem.run_pure,Result.andThen_ok,List.map_toArray,List.map_cons,List.map_nil,hx,hrun]
section
variable {w0 w:World} {X:Bk} {Z:Pk} {D:Dk} {L:Lg} {P:Pl}
theorem lsure_any (h:LgAt w0 w X D L):Calls Tryz.prog 109 #[.pointer (some ⟨X.q,0,none⟩)] w (Same w (.int .u64 (L.sure:Int))):=by
 have c8:=h.blk.cell (i:=8) rfl
 clear h
 go_enter Tryz.func109,Tryz.ntmps109
 go_wp2
 go_ret
 exact ⟨rfl,rfl⟩
theorem lsureN_any (h:LgAt w0 w X D L):Calls Tryz.prog 109 #[.pointer (some ⟨X.q,0,none⟩)] w (fun e w' =>e= .returned (.int .u64 (L.sure:Int))∧∃m,w' =w.drewN m):=(lsure_any h).mono fun _ _ ⟨h1,h2⟩=>⟨h1,0,h2.symm⟩
theorem psettle_any (h:PlAt w0 w Z D L P):Calls Tryz.prog 74 #[.pointer (some ⟨Z.q,0,none⟩)] w (fun e w' =>e= .returned (.tuple #[])∧PlAt w0 w' Z D L (settleP L P)∧Pfr Z P w w'):=by
 have H:=hide h
 have KS:=hide (lsure_any h.log)
 have c1:=h.blk.cell (i:=1) rfl
 have c6:=h.blk.cell (i:=6) rfl
 have c7:=h.blk.cell (i:=7) rfl
 by_cases hs:P.sure < L.sure
 ·have hsi:(P.sure:Int) < (L.sure:Int):=by omega
  obtain ⟨w2,hrun,hm,ht⟩:=h.way.clear (t:=86) (e:=34) Tryz.underlying86 0
  have H2:=hide (h.wayIs (fun _=>none) 0 ht (by unfold wayM;exact hm))
  have HT:=hide ht
  have z7:=H2.out.blk.frozen 7
  have k7:=H2.out.blk.cell (i:=7) rfl
  have HE:Hid (settleP L P= { P with W:=fun _=>none,m:=0,sure:=L.sure }):=hide (by unfold settleP;rw [if_pos hs])
  rw [HE.out]
  have HRUN:=hide hrun
  clear h hs hrun hm ht
  go_enter Tryz.func74,Tryz.ntmps74
  go_wp2_with (first
   | (go_at_call 109;(with_reducible refine KS.out.mono ?_);rintro e wz ⟨rfl,rfl⟩)
   | ((with_reducible show wpList _ _ _ (⟨none, .call _,_,_,_,_⟩::_) _ _);refine wpList_gives (gives_bi1 (x:= .tmp 17) rfl rfl HRUN.out ⟨rfl,rfl⟩) rfl ?_))
  go_end0
  refine ⟨rfl,H2.out.field 7 _ _ rfl rfl rfl rfl ?_,(Pfr.onMap HT.out (.inr (.inr (.inr (.inl rfl))))).trans (Pfr.onCell (P:=P) (.inr (.inl rfl))) (Pk.Later.refl _ _ _)⟩
  rfl
 ·have hsi:¬(P.sure:Int) < (L.sure:Int):=by omega
  have HE:Hid (settleP L P=P):=hide (by unfold settleP;rw [if_neg hs])
  rw [HE.out]
  clear h hs
  go_enter Tryz.func74,Tryz.ntmps74
  go_wp2_with (go_at_call 109;(with_reducible refine KS.out.mono ?_);rintro e wz ⟨rfl,rfl⟩)
  go_end0
  exact ⟨rfl,H.out,Pfr.refl⟩
theorem PlAt.of_logE {D':Dk} {L':Lg} {r:Value} {e:Ending} {w':World} (h:PlAt w0 w Z D L P) (hp:LPost w0 w Z.X r D' L' e w'):∃Z',e= .returned r∧Z'.q=Z.q∧Z'.fb=Z.fb∧PlAt w0 w' Z' D' L' P∧Pfr Z P w w'∧Z'.Later P Z P w:=by
 obtain ⟨X',he,hl,hf,hn⟩:=hp
 obtain ⟨h1,h2,h3⟩:=h.of_log hl hf hn
 exact ⟨{ Z with X:=X' },he,rfl,rfl,h1,h2,h3⟩
end
theorem flW_bd (L:Lg) (T:Nat) (hT:L.tail.length≤T):∀(f k:Nat) (D:Dk),Bd D→D.pen.length + ((T + 479) / 480 - k) < 900000→D.ops + ((T + 479) / 480 - k) < 900000→
  Bd (flW L f k D).2∧(flW L f k D).2.pen.length≤D.pen.length + ((T + 479) / 480 - k)∧(flW L f k D).2.ops≤D.ops + ((T + 479) / 480 - k)∧(flW L f k D).2.dur.length=D.dur.length
 | 0,_,D,b,_,_=>⟨b,by show D.pen.length≤_;omega,by show D.ops≤_;omega,rfl⟩
 | f + 1,k,D,b,hp,ho=>by
  unfold flW
  split
  ·exact ⟨b,by show D.pen.length≤_;omega,by show D.ops≤_;omega,rfl⟩
  ·rename_i h1
   have hk:k < (T + 479) / 480:=by omega
   obtain ⟨b2,p2,o2,d2⟩:=wD_bd b (by omega) (by omega) (flS L k) (flP L k)
   split
   ·exact ⟨b2,by show (wD D (flS L k) (flP L k)).pen.length≤_;omega,by show (wD D (flS L k) (flP L k)).ops≤_;omega,d2⟩
   ·obtain ⟨b3,p3,o3,d3⟩:=flW_bd L T hT f (k + 1) (wD D (flS L k) (flP L k)) b2 (by omega) (by omega)
    exact ⟨b3,by omega,by omega,by rw [d3,d2]⟩
theorem flD_bd {D:Dk} {L:Lg} {T:Nat} (hT:L.tail.length≤T) (b:Bd D) (hp:D.pen.length + (T + 479) / 480 < 800000) (ho:D.ops + (T + 479) / 480 < 800000):
  Bd (flD D L)∧(flD D L).pen.length≤D.pen.length + (T + 479) / 480 + 1∧(flD D L).ops≤D.ops + (T + 479) / 480 + 1∧(flD D L).dur.length=D.dur.length:=by
 have h:Bd (flZ D L).2∧(flZ D L).2.pen.length≤D.pen.length + ((T + 479) / 480 - 0)∧(flZ D L).2.ops≤D.ops + ((T + 479) / 480 - 0)∧(flZ D L).2.dur.length=D.dur.length:=flW_bd L T hT L.tail.length 0 D b (by omega) (by omega)
 unfold flD
 split
 ·exact ⟨b,by omega,by omega,rfl⟩
 ·split
  ·exact ⟨b,by omega,by omega,rfl⟩
  ·split
   ·exact ⟨h.1,by omega,by omega,h.2.2.2⟩
   ·obtain ⟨b3,p3,o3,d3⟩:=sD_bd h.1 (by omega)
    exact ⟨b3,by omega,by omega,by rw [d3,h.2.2.2]⟩
theorem flL_hd (D:Dk) (L:Lg):(flL D L).hd=L.hd∧(flL D L).at_=L.at_∧(flL D L).held=L.held∧(flL D L).tail.length≤L.tail.length∧(flL D L).sure≤L.sure + L.tail.length:=by
 unfold flL
 split
 ·refine ⟨rfl,rfl,rfl, ?_, ?_⟩
  ·show (L.tail.drop _).length≤_
   rw [List.length_drop];omega
  ·show endOf L≤_
   unfold endOf
   have:=flo_le L.sure
   omega
 ·exact ⟨rfl,rfl,rfl,Nat.le_refl _,by omega⟩
theorem flL_ok {D D':Dk} {L:Lg} (ok:L.Ok D) (hs:L.sure + L.tail.length < 1152921504606846976) (hd:D'.dur.length=D.dur.length):(flL D L).Ok D':=by
 obtain ⟨e1,e2,e3,e4,e5⟩:=flL_hd D L
 exact ⟨by rw [e1];exact ok.hd,by rw [e1];exact ok.cn,by rw [e1,e2,hd];exact ok.at_,by omega,by have:=ok.tail;omega,by rw [e3];exact ok.held⟩
structure St.Fit (S:St) (c:Nat):Prop where
 bd:Bd S.D
 log:S.L.Ok S.D
 pool:S.P.Ok S.D.dur.length
 pen:S.D.pen.length≤c
 ops:S.D.ops≤c
 tail:S.L.tail.length≤480 * S.L.hd.cn
 sure:S.L.sure≤2000000 * c
 asked:S.P.asked≤c
 wcnt:S.P.m≤c
theorem St.Fit.mono {S:St} {c c':Nat} (h:S.Fit c) (hc:c≤c'):S.Fit c':=⟨h.bd,h.log,h.pool,Nat.le_trans h.pen hc,Nat.le_trans h.ops hc,h.tail,Nat.le_trans h.sure (by omega),Nat.le_trans h.asked hc,Nat.le_trans h.wcnt hc⟩
section
variable {S:St} {c i:Nat} {f:Fm}
theorem aheadR_is:(aheadR S f).2.P=S.P∧(aheadR S f).2.L.hd=S.L.hd∧(aheadR S f).2.D.dur.length=(aheadR S f).2.D.dur.length:=by
 unfold aheadR
 split
 ·exact ⟨rfl,(flL_hd _ _).1,rfl⟩
 ·exact ⟨rfl,rfl,rfl⟩
theorem aheadR_fit (h:S.Fit c) (hc:c≤400000):(aheadR S f).2.Fit (c + S.L.hd.cn + 2)∧(aheadR S f).2.D.dur.length=S.D.dur.length:=by
 have hcn:=h.log.cn
 unfold aheadR
 split
 ·obtain ⟨b,p,o,d⟩:=flD_bd (D:=S.D) (L:=S.L) (T:=480 * S.L.hd.cn) h.tail h.bd (by have:=h.pen;omega) (by have:=h.ops;omega)
  obtain ⟨e1,e2,e3,e4,e5⟩:=flL_hd S.D S.L
  have h1:=h.sure
  have h2:=h.tail
  have h3:=h.pen
  have h4:=h.ops
  refine ⟨⟨b,flL_ok h.log (by omega) d, ?_, ?_, ?_, ?_, ?_, ?_, ?_⟩,d⟩
  ·show S.P.Ok (flD S.D S.L).dur.length
   rw [d];exact h.pool
  ·show (flD S.D S.L).pen.length≤_
   omega
  ·show (flD S.D S.L).ops≤_
   omega
  ·show (flL S.D S.L).tail.length≤480 * (flL S.D S.L).hd.cn
   rw [e1];omega
  ·show (flL S.D S.L).sure≤_
   omega
  ·show S.P.asked≤_
   have:=h.asked;omega
  ·show S.P.m≤_
   have:=h.wcnt;omega
 ·exact ⟨h.mono (by omega),rfl⟩
theorem putR_fit (h:S.Fit c) (hc:c≤500000):(putR S i f).2.Fit (c + 1)∧(putR S i f).2.D.dur.length=S.D.dur.length:=by
 unfold putR
 obtain ⟨b,p,o,d⟩:=wD_bd h.bd (by have:=h.pen;omega) (by have:=h.ops;omega) ((S.P.at_ + i:Nat):Int) (secB f)
 refine ⟨⟨b,h.log.onD d, ?_, ?_, ?_,h.tail, ?_, ?_, ?_⟩,d⟩
 ·show S.P.Ok (wD S.D ((S.P.at_ + i:Nat):Int) (secB f)).dur.length
  rw [d];exact h.pool
 ·show (wD S.D ((S.P.at_ + i:Nat):Int) (secB f)).pen.length≤_
  have:=h.pen;omega
 ·show (wD S.D ((S.P.at_ + i:Nat):Int) (secB f)).ops≤_
  have:=h.ops;omega
 ·show S.L.sure≤_
  have:=h.sure;omega
 ·show S.P.asked≤_
  have:=h.asked;omega
 ·show S.P.m≤_
  have:=h.wcnt;omega
theorem settleP_is (L:Lg) (P:Pl):(settleP L P).H=P.H∧(settleP L P).n=P.n∧(settleP L P).at_=P.at_∧(settleP L P).pages=P.pages∧(settleP L P).frames=P.frames∧(settleP L P).asked=P.asked∧(settleP L P).m≤P.m∧(∀i s,(settleP L P).W i=some s→P.W i=some s)∧((settleP L P).sure=P.sure∨(settleP L P).sure=L.sure):=by
 unfold settleP
 split
 ·exact ⟨rfl,rfl,rfl,rfl,rfl,rfl,Nat.zero_le _,fun i s h=>(by cases h), .inr rfl⟩
 ·exact ⟨rfl,rfl,rfl,rfl,rfl,rfl,Nat.le_refl _,fun i s h=>h, .inl rfl⟩
theorem wayP_is (P:Pl) (i s:Nat):(wayP P i s).H=P.H∧(wayP P i s).n=P.n∧(wayP P i s).at_=P.at_∧(wayP P i s).pages=P.pages∧(wayP P i s).frames=P.frames∧(wayP P i s).asked=P.asked∧(wayP P i s).m≤P.m + 1∧(∀j x,(wayP P i s).W j=some x→P.W j=some x∨x=s)∧(wayP P i s).sure=P.sure:=by
 unfold wayP
 split
 ·exact ⟨rfl,rfl,rfl,rfl,rfl,rfl,Nat.le_succ _,fun j x h=> .inl h,rfl⟩
 ·refine ⟨rfl,rfl,rfl,rfl,rfl,rfl,Nat.le_refl _,fun j x h=> ?_,rfl⟩
  by_cases e:j=i
  ·subst e
   have h:upM P.W j (some s) j=some x:=h
   rw [upM_same] at h
   exact .inr (Option.some.inj h).symm
  ·have h:upM P.W i (some s) j=some x:=h
   rw [upM_other _ _ e] at h
   exact .inl h
theorem Pl.Ok.like {P P':Pl} {n:Nat} (ok:P.Ok n) (h1:P'.H=P.H) (h2:P'.n=P.n) (h3:P'.at_=P.at_) (h4:P'.pages=P.pages) (h5:P'.frames=P.frames) (h6:P'.asked=P.asked) (h7:∀i s,P'.W i=some s→s < 18446744073709551616) (h8:P'.sure < 18446744073709551616):P'.Ok n:=
 ⟨by rw [h3,h4];exact ok.at_,ok.max,by rw [h4];exact ok.pages,by rw [h5];exact ok.frames,fun i f hi=>by
  rw [h1] at hi
  obtain ⟨a,b⟩:=ok.page i f hi
  exact ⟨by rw [h4];exact a,⟨b.by_,b.last,b.hi,b.since,b.pins,by rw [h6];exact b.used⟩⟩,fun i j f g hi hj=>by rw [h1] at hi hj;exact ok.one i j f g hi hj,by rw [h2,h5];exact ok.cnt,h7,h8⟩
theorem storeR_P (S:St) (i:Nat) (f:Fm):(storeR S i f).2.P.H=S.P.H∧(storeR S i f).2.P.n=S.P.n∧(storeR S i f).2.P.at_=S.P.at_∧(storeR S i f).2.P.pages=S.P.pages∧(storeR S i f).2.P.frames=S.P.frames∧(storeR S i f).2.P.asked=S.P.asked∧(storeR S i f).2.L.hd=S.L.hd:=by
 obtain ⟨a1,a2,-⟩:=aheadR_is (S:=S) (f:=f)
 unfold storeR
 split
 ·rw [a1,a2];exact ⟨rfl,rfl,rfl,rfl,rfl,rfl,rfl⟩
 ·split
  ·show (aheadR S f).2.P.H=_∧(aheadR S f).2.P.n=_∧(aheadR S f).2.P.at_=_∧(aheadR S f).2.P.pages=_∧(aheadR S f).2.P.frames=_∧(aheadR S f).2.P.asked=_∧(aheadR S f).2.L.hd=_
   rw [a1,a2];exact ⟨rfl,rfl,rfl,rfl,rfl,rfl,rfl⟩
  ·obtain ⟨b1,b2,b3,b4,b5,b6,-⟩:=settleP_is (aheadR S f).2.L S.P
   obtain ⟨d1,d2,d3,d4,d5,d6,-⟩:=wayP_is (settleP (aheadR S f).2.L S.P) i f.since
   exact ⟨d1.trans b1,d2.trans b2,d3.trans b3,d4.trans b4,d5.trans b5,d6.trans b6,a2⟩
theorem storeR_fit (h:S.Fit c) (hc:c≤400000) (hf:S.P.H i=some f):(storeR S i f).2.Fit (c + S.L.hd.cn + 3)∧(storeR S i f).2.D.dur.length=S.D.dur.length:=by
 have hcn:=h.log.cn
 obtain ⟨h1,d1⟩:=aheadR_fit (f:=f) h hc
 obtain ⟨h2,d2⟩:=putR_fit (i:=i) (f:=f) h1 (by omega)
 obtain ⟨a1,a2,-⟩:=aheadR_is (S:=S) (f:=f)
 unfold storeR
 split
 ·exact ⟨h1.mono (by omega),d1⟩
 ·split
  ·exact ⟨h2,d2.trans d1⟩
  ·refine ⟨⟨h2.bd,h2.log, ?_,h2.pen,h2.ops,h2.tail,h2.sure, ?_, ?_⟩,d2.trans d1⟩
   ·obtain ⟨b1,b2,b3,b4,b5,b6,b7,b8,b9⟩:=settleP_is (aheadR S f).2.L S.P
    obtain ⟨c1,c2,c3,c4,c5,c6,c7,c8,c9⟩:=wayP_is (settleP (aheadR S f).2.L S.P) i f.since
    show (wayP (settleP (aheadR S f).2.L S.P) i f.since).Ok (putR (aheadR S f).2 i f).2.D.dur.length
    rw [d2,d1]
    refine h.pool.like (c1.trans b1) (c2.trans b2) (c3.trans b3) (c4.trans b4) (c5.trans b5) (c6.trans b6) (fun j s hj=> ?_) ?_
    ·rcases c8 j s hj with h3 | h3
     ·exact h.pool.way j s (b8 j s h3)
     ·rw [h3];exact (h.pool.page i f hf).2.since
    ·rw [c9]
     rcases b9 with h3 | h3
     ·rw [h3];exact h.pool.sure
     ·rw [h3];have:=h1.log.sure;omega
   ·show (wayP (settleP (aheadR S f).2.L S.P) i f.since).asked≤_
    rw [(wayP_is _ _ _).2.2.2.2.2.1,(settleP_is _ _).2.2.2.2.2.1]
    have:=h.asked;omega
   ·show (wayP (settleP (aheadR S f).2.L S.P) i f.since).m≤_
    have e1:=(wayP_is (settleP (aheadR S f).2.L S.P) i f.since).2.2.2.2.2.2.1
    have e2:=(settleP_is (aheadR S f).2.L S.P).2.2.2.2.2.2.1
    have:=h.wcnt;omega
theorem Pl.Ok.drop {P:Pl} {n:Nat} (ok:P.Ok n) (i:Nat):(dropP P i).Ok n:=
 ⟨ok.at_,ok.max,ok.pages,ok.frames,fun j g hj=>(by
  obtain ⟨a,b⟩:=ok.page j g (upM_nil hj).2
  exact ⟨a,⟨b.by_,b.last,b.hi,b.since,b.pins,b.used⟩⟩),fun j k g g' hj hk=>ok.one j k g g' (upM_nil hj).2 (upM_nil hk).2,by show P.n - 1≤P.frames;have:=ok.cnt;omega,ok.way,ok.sure⟩
theorem roomR_fit (h:S.Fit c) (hc:c≤400000):(roomR S).2.Fit (c + S.L.hd.cn + 3)∧(roomR S).2.D.dur.length=S.D.dur.length∧(roomR S).2.L.hd=S.L.hd∧((roomR S).1=0→(roomR S).2.P.n < (roomR S).2.P.frames)∧(∀j g,(roomR S).2.P.H j=some g→S.P.H j=some g)∧(roomR S).2.P.at_=S.P.at_∧(roomR S).2.P.pages=S.P.pages∧(roomR S).2.P.frames=S.P.frames∧(roomR S).2.P.asked=S.P.asked:=by
 unfold roomR
 split
 ·rename_i h1
  exact ⟨h.mono (by omega),rfl,rfl,fun _=>h1,fun j g hj=>hj,rfl,rfl,rfl,rfl⟩
 ·rename_i h1
  cases hid:idle S.P.H S.P.pages with
  | none=>exact ⟨h.mono (by omega),rfl,rfl,fun h2=>absurd h2 (by show ¬(9:Int)=0;decide),fun j g hj=>hj,rfl,rfl,rfl,rfl⟩
  | some i=>
   obtain ⟨f,hf,-⟩:=idle_is hid
   simp only [hf]
   have hfr:=h.pool.frames
   have hn:=h.pool.cnt
   split
   ·obtain ⟨s1,d1⟩:=storeR_fit h hc hf
    obtain ⟨e1,e2,e3,e4,e5,e6,e7⟩:=storeR_P S i f
    split
    ·rename_i h2
     exact ⟨s1,d1,e7,fun h3=>absurd h3 h2,fun j g hj=>by rw [← e1];exact hj,e3,e4,e5,e6⟩
    ·refine ⟨⟨s1.bd,s1.log,s1.pool.drop i,s1.pen,s1.ops,s1.tail,s1.sure,s1.asked,s1.wcnt⟩,d1,e7,fun _=> ?_,fun j g hj=>by rw [← e1];exact (upM_nil hj).2,e3,e4,e5,e6⟩
     show (storeR S i f).2.P.n - 1 < (storeR S i f).2.P.frames
     rw [e2,e5];omega
   ·refine ⟨⟨h.bd,h.log,h.pool.drop i,Nat.le_trans h.pen (by omega),Nat.le_trans h.ops (by omega),h.tail,Nat.le_trans h.sure (by omega),Nat.le_trans h.asked (by omega),Nat.le_trans h.wcnt (by omega)⟩,rfl,rfl,fun _=> ?_,fun j g hj=>(upM_nil hj).2,rfl,rfl,rfl,rfl⟩
    show S.P.n - 1 < S.P.frames
    omega
theorem Pl.Ok.ask {P:Pl} {n i:Nat} {f:Fm} (ok:P.Ok n) (hi:i < P.pages) (hf:f.by_.length=504∧f.last < 18446744073709551616∧f.hi < 18446744073709551616∧f.since < 18446744073709551616∧f.pins < 1000000) {H:Nat→Option Fm} (hH:∀j g,j≠i→H j=some g→P.H j=some g) (k:Nat) (hk:k≤P.frames):
  ({ P with H:=upM H i (some { f with used:=P.asked + 1 }),n:=k,asked:=P.asked + 1 }:Pl).Ok n:=by
 have back:∀j g,upM H i (some { f with used:=P.asked + 1 }) j=some g→(j=i∧g.used=P.asked + 1∧i < P.pages∧g= { f with used:=P.asked + 1 })∨(j≠i∧P.H j=some g):=fun j g hj=>by
  by_cases e:j=i
  ·subst e
   rw [upM_same] at hj
   have hj:=Option.some.inj hj
   exact .inl ⟨rfl,by rw [← hj],hi,hj.symm⟩
  ·rw [upM_other _ _ e] at hj
   exact .inr ⟨e,hH j g e hj⟩
 refine ⟨ok.at_,ok.max,ok.pages,ok.frames,fun j g hj=> ?_,fun j k g g' hj hk hu=> ?_,hk,ok.way,ok.sure⟩
 ·rcases back j g hj with ⟨rfl,h2,h3,rfl⟩ | ⟨h1,h2⟩
  ·exact ⟨h3,⟨hf.1,hf.2.1,hf.2.2.1,hf.2.2.2.1,hf.2.2.2.2,Nat.le_refl _⟩⟩
  ·obtain ⟨a,b⟩:=ok.page j g h2
   exact ⟨a,⟨b.by_,b.last,b.hi,b.since,b.pins,Nat.le_succ_of_le b.used⟩⟩
 ·rcases back j g hj with ⟨h1,h2,-⟩ | ⟨h1,h2⟩ <;> rcases back k g' hk with ⟨h3,h4,-⟩ | ⟨h3,h4⟩
  ·rw [h1,h3]
  ·have:=(ok.page k g' h4).2.used;omega
  ·have:=(ok.page j g h2).2.used;omega
  ·exact ok.one j k g g' h2 h4 hu
theorem frameB_ok {s:List UInt8} (hs:s.length=512):(frameB s).by_.length=504∧(frameB s).last < 18446744073709551616∧(frameB s).hi < 18446744073709551616∧(frameB s).since < 18446744073709551616∧(frameB s).pins < 1000000:=by
 refine ⟨by show (s.drop 8).length=504;rw [List.length_drop,hs], ?_,by show 0 < _;decide,by show 0 < _;decide,by show 0 < _;decide⟩
 show (num (s.take 8)).toNat < _
 have:=num_take_lt8 s
 omega
theorem gB_lenP {D:Dk} (b:Bd D) (i:Int) (h:gE D i=0):(gB D i).length=512:=by
 unfold gE at h
 unfold gB
 by_cases h1:i < 0∨(D.dur.length:Int)≤i
 ·rw [if_pos h1] at h;cases h
 ·rw [if_neg h1] at h ⊢
  by_cases h2:D.off=true
  ·rw [if_pos h2] at h;cases h
  ·rw [if_neg h2]
   exact at_len b _ (by omega)
theorem pageR_fit (h:S.Fit c) (hc:c≤400000) (x:Int):(pageR S x).2.Fit (c + S.L.hd.cn + 4)∧(pageR S x).2.D.dur.length=S.D.dur.length∧(pageR S x).2.L.hd=S.L.hd∧(pageR S x).2.P.at_=S.P.at_∧(pageR S x).2.P.pages=S.P.pages∧(pageR S x).2.P.frames=S.P.frames:=by
 unfold pageR
 split
 ·exact ⟨h.mono (by omega),rfl,rfl,rfl,rfl,rfl⟩
 ·rename_i hx
  have hi:x.toNat < S.P.pages:=by omega
  cases hH:S.P.H x.toNat with
  | some f=>
   obtain ⟨a,b⟩:=h.pool.page _ f hH
   refine ⟨⟨h.bd,h.log, ?_,Nat.le_trans h.pen (by omega),Nat.le_trans h.ops (by omega),h.tail,Nat.le_trans h.sure (by omega),by show S.P.asked + 1≤_;have:=h.asked;omega,Nat.le_trans h.wcnt (by omega)⟩,rfl,rfl,rfl,rfl,rfl⟩
   exact h.pool.ask hi ⟨b.by_,b.last,b.hi,b.since,b.pins⟩ (H:=S.P.H) (fun j g _ hj=>hj) S.P.n h.pool.cnt
  | none=>
   obtain ⟨r1,r2,r3,r4,r5,r6,r7,r8,r9⟩:=roomR_fit h hc
   simp only
   split
   ·exact ⟨h.mono (by omega),rfl,rfl,rfl,rfl,rfl⟩
   ·rename_i hg
    split
    ·exact ⟨r1.mono (by omega),r2,r3,r6,r7,r8⟩
    ·rename_i hr
     have hr0:(roomR S).1=0:=by omega
     refine ⟨⟨r1.bd,r1.log, ?_,Nat.le_trans r1.pen (by omega),Nat.le_trans r1.ops (by omega),r1.tail,Nat.le_trans r1.sure (by omega),by show (roomR S).2.P.asked + 1≤_;have:=r1.asked;omega,Nat.le_trans r1.wcnt (by omega)⟩,r2,r3,r6,r7,r8⟩
     have hb:=gB_lenP h.bd ((S.P.at_:Int) + x) (by omega)
     exact r1.pool.ask (f:=frameB (gB S.D ((S.P.at_:Int) + x))) (by rw [r7];exact hi) (frameB_ok hb) (H:=upM (roomR S).2.P.H x.toNat (some (frameB (gB S.D ((S.P.at_:Int) + x))))) (fun j g hj hg2=>by rw [upM_other _ _ hj] at hg2;exact hg2) ((roomR S).2.P.n + 1) (r4 hr0)
end
section
variable {w0 w:World} {Z:Pk} {D:Dk} {L:Lg} {P:Pl}
def StPost (w0 w:World) (Z:Pk) (P:Pl) (r:Int×St) (e:Ending) (w':World):Prop:=∃Z',e= .returned (.int .i64 r.1)∧PlAt w0 w' Z' r.2.D r.2.L r.2.P∧Pfr Z P w w'∧Z'.Later P Z P w∧Z'.fb=Z.fb
theorem store_any {c i:Nat} {f:Fm} (h:PlAt w0 w Z D L P) (ft:St.Fit ⟨D,L,P⟩ c) (hc:c≤400000) (hf:P.H i=some f) (hT:Tab w0):
  Calls Tryz.prog 73 #[.pointer (some ⟨Z.q,0,none⟩), .int .i64 (i:Int)] w (StPost w0 w Z P (storeR ⟨D,L,P⟩ i f)):=by
 have H:=hide h
 have FT:=hide ft
 have HF:=hide hf
 have HT:=hide hT
 have HC:=hide hc
 obtain ⟨hip,hfo⟩:=ft.pool.page i f hf
 have FO:=hide hfo
 have HIP:=hide hip
 obtain ⟨-,g5,-⟩:=fr_get hfo.by_
 have hi5:i < 100000:=by
  have h1:i < P.pages:=hip
  have h2:=ft.pool.at_
  have h3:=ft.pool.max
  have h4:P.at_ + P.pages≤D.dur.length:=h2
  have h5:D.dur.length≤4096:=h3
  omega
 have HI5:=hide hi5
 obtain ⟨v,ps,hlk,hv⟩:=h.held.look (t:=85) (e:=97) Tryz.underlying85 (z:= .pointer none) (by kernel_rfl) (zd:= .lit (.int .i64 (-1))) (zp:= []) rfl i hi5
 have hm:heldM Z P i=some (.lit (.int .i64 (Z.fb i:Int))):=by unfold heldM;rw [hf];rfl
 rw [hm] at hv
 obtain rfl:=ptrR_is hv
 obtain ⟨b,HBI⟩:∃b,Hid (Z.fb i=b):=⟨_,hide rfl⟩
 rw [HBI.out] at hlk
 have c1:=h.blk.cell (i:=1) rfl
 have c5:=h.blk.cell (i:=5) rfl
 have k505:=(h.fr i f hf).cell g5
 rw [HBI.out] at k505
 have KSU:=hide (fun (W:World) (hW:Ext w W)=>lsureN_any (h.log.ext_ hW))
 obtain ⟨hi,HHI⟩:∃hi,Hid (f.hi=hi):=⟨_,hide rfl⟩
 obtain ⟨su,HSU⟩:∃su,Hid (L.sure=su):=⟨_,hide rfl⟩
 obtain ⟨gq,HGQ⟩:∃gq,Hid (Z.X.q=gq):=⟨_,hide rfl⟩
 rw [HHI.out] at k505
 rw [HSU.out,HGQ.out] at KSU
 rw [HGQ.out] at c1
 obtain ⟨sb,HSB⟩:∃sb,Hid (secB f=sb):=⟨_,hide rfl⟩
 have HSBL:Hid (sb.length=512):=hide (by rw [← HSB.out];exact secB_len hfo.by_)
 obtain ⟨s,HS⟩:∃s:Int,Hid (((P.at_ + i:Nat):Int)=s):=⟨_,hide rfl⟩
 have HAP:Hid ((P.at_:Int) + (i:Int)=s∧0≤s∧s < 100000):=hide (by
  have h2:P.at_ + P.pages≤D.dur.length:=ft.pool.at_
  have h5:D.dur.length≤4096:=ft.pool.max
  have h1:i < P.pages:=hip
  have:=HS.out
  omega)
 obtain ⟨rr,HRR⟩:∃rr,Hid (storeR ⟨D,L,P⟩ i f=rr):=⟨_,hide rfl⟩
 rw [HRR.out]
 clear hip hfo g5 hi5 hv hm ft hc hf hT h
 go_enter Tryz.func73,Tryz.ntmps73
 go_upto_region 2 with fail
 go_quiet ((go_at_call 109;exact Calls.quiet_of (KSU.out _ ((Ext.refl _).drewN _))))
 by_cases hhs:su≤hi
 ·have hhi:(su:Int)≤(hi:Int):=by omega
  obtain ⟨e1,HE1⟩:∃e1,Hid (flE D L=e1):=⟨_,hide rfl⟩
  obtain ⟨D1,HD1⟩:∃D1,Hid (flD D L=D1):=⟨_,hide rfl⟩
  obtain ⟨L1,HL1⟩:∃L1,Hid (flL D L=L1):=⟨_,hide rfl⟩
  have HAH0:Hid (aheadR ⟨D,L,P⟩ f=(e1,⟨D1,L1,P⟩)):=hide (by unfold aheadR;rw [if_pos (by show L.sure≤f.hi;rw [HSU.out,HHI.out];exact hhs),← HE1.out,← HD1.out,← HL1.out])
  have FT1:Hid (St.Fit ⟨D1,L1,P⟩ (c + L.hd.cn + 2)):=hide (by
   have h1:=(aheadR_fit (f:=f) FT.out HC.out).1
   rw [HAH0.out] at h1
   exact h1)
  obtain ⟨wq,HWQ⟩:∃wq,Hid (w.drewN nq=wq):=⟨_,hide rfl⟩
  have HXQ:Hid (Ext w wq):=hide (by rw [← HWQ.out];exact (Ext.refl _).drewN _)
  rw [HWQ.out]
  have c1q:=(H.out.ext_ HXQ.out).blk.cell (i:=1) rfl
  rw [HGQ.out] at c1q
  have KFL:Hid (Calls Tryz.prog 67 #[.pointer (some ⟨gq,0,none⟩)] wq (LPost w0 wq Z.X (.int .i64 e1) D1 L1)):=hide (by
   have h1:=FT.out.pen
   have h2:=FT.out.ops
   have h3:=FT.out.tail
   have h4:=FT.out.log.cn
   have h5:=HC.out
   have k1:=flush_any (H.out.ext_ HXQ.out).log FT.out.log FT.out.bd (by show D.pen.length < 500000;have h1:D.pen.length≤c:=h1;omega) (by show D.ops < 500000;have h2:D.ops≤c:=h2;omega) (by show L.tail.length < 100000000;have h3:L.tail.length≤480 * L.hd.cn:=h3;have h4:4≤L.hd.cn∧L.hd.cn≤4096:=h4;omega) HT.out
   rw [HGQ.out,HE1.out,HD1.out,HL1.out] at k1
   exact k1)
  clear hhs c1 c5 k505
  by_cases he1:e1=0
  ·subst he1
   have HAH:Hid (aheadR ⟨D,L,P⟩ f=(0,⟨D1,L1,P⟩)):=HAH0
   go_upto_region 6 with (go_at_call 67;(with_reducible refine KFL.out.mono ?_);rintro e wv hp1;have HP1:=hide ((H.out.ext_ HXQ.out).of_logE hp1);obtain ⟨X1',rfl,-⟩:=hp1)
   obtain ⟨Z1,-,hq1,hfb1,hpl1,hpf1,hpn1⟩:=HP1.out
   have HQ1:=hide hq1
   have HFB1:=hide hfb1
   have HV:=hide hpl1
   have HPF1:Hid (Pfr Z P w wv):=hide ((Pfr.ext HXQ.out).trans hpf1 (Pk.Later.refl _ _ _))
   have HPN1:Hid (Z1.Later P Z P w):=hide (hpn1.up HXQ.out.size)
   clear hq1 hfb1 hpl1 hpf1 hpn1 HP1 c1q hhi
   have k0:=HV.out.blk.cell (i:=0) rfl
   have k2:=HV.out.blk.cell (i:=2) rfl
   rw [HQ1.out] at k0 k2
   obtain ⟨gd0,HGD⟩:∃gd0,Hid (Z1.X.g=gd0):=⟨_,hide rfl⟩
   rw [HGD.out] at k0
   obtain ⟨at0,HAT⟩:∃at0,Hid (P.at_=at0):=⟨_,hide rfl⟩
   rw [HAT.out] at k2
   have hsw:IntKind.i64.wrap ((at0:Int) + (i:Int))=s:=by rw [IntKind.wrap_i64];have h1:=HAP.out;rw [HAT.out] at h1;omega
   have KSE:Hid (∀W,Ext wv W→Calls Tryz.prog 110 #[.pointer (some ⟨b,0,none⟩)] W (fun e w' =>∃A c,e= .returned (.slice A 512 c)∧Rd w' A sb∧Ext W w')):=hide (fun W hW=>by
    have hr:=(HV.out.fr i f HF.out).ext hW
    rw [HFB1.out,HBI.out] at hr
    refine (fsector_any b f FO.out.by_ FO.out.last hr).mono fun e w' hh=> ?_
    obtain ⟨v,he,hx,A,c,hv,hcc,hrd⟩:=hh
    rw [HSB.out] at hv hrd
    rw [HSBL.out] at hv
    exact ⟨A,c,by rw [he,hv],hrd,hx⟩)
   obtain ⟨e2,HE2⟩:∃e2,Hid (wE D1 s sb=e2):=⟨_,hide rfl⟩
   obtain ⟨D2,HD2⟩:∃D2,Hid (wD D1 s sb=D2):=⟨_,hide rfl⟩
   have HPUT:Hid (putR ⟨D1,L1,P⟩ i f=(e2,⟨D2,L1,P⟩)):=hide (by unfold putR;rw [HS.out,HSB.out,← HE2.out,← HD2.out])
   have KWR:Hid (∀W,Ext wv W→∀A c,Rd W A sb→Calls Tryz.prog 46 #[.pointer (some ⟨gd0,0,none⟩), .int .i64 s, .slice A 512 c] W (DPost w0.heap.size Z1.X.g Z1.X.gd Z1.X.gn W Z1.X.A (.int .i64 e2) D2)):=hide (fun W hW A c hr=>by
    have k1:=write_uni (Pp:=A) (d:=c) (HV.out.log.disk.ext hW) FT1.out.bd (Nat.le_trans HV.out.log.ext.size hW.size) s sb 512 HSBL.out (by decide) hr
    rw [HGD.out,HE2.out,HD2.out] at k1
    rw [HGD.out]
    exact k1)
   clear hlk
   go_upto_region 6 with fail
   go_region_law (first
    | (go_simp;go_at_call 110;(with_reducible refine (KSE.out _ (Ext.drew _)).mono ?_);rintro e w2 ⟨A2,c2,rfl,hr2,hx2⟩;have HX2:Hid (Ext wv w2):=hide ((Ext.drew _).trans hx2);have HR2:=hide hr2;have k0b:=(HV.out.blk.ext HX2.out).cell (i:=0) rfl;have k2b:=(HV.out.blk.ext HX2.out).cell (i:=2) rfl;rw [HQ1.out] at k0b k2b;rw [HGD.out] at k0b;rw [HAT.out] at k2b;clear hr2 hx2)
    | (go_simp;go_at_call 46;(with_reducible refine (KWR.out w2 HX2.out A2 c2 HR2.out).mono ?_);rintro e w3 hp3;have HP3:=hide ((HV.out.ext_ HX2.out).of_logE (LPost.of_disk (HV.out.ext_ HX2.out).log hp3));obtain ⟨A3,c3,rfl,-⟩:=hp3))
   all_goals
    obtain ⟨Z3,-,hq3,hfb3,hpl3,hpf3,hpn3⟩:=HP3.out
    have HQ3:Hid (Z3.q=Z.q):=hide (hq3.trans HQ1.out)
    have HFB3:Hid (Z3.fb=Z.fb):=hide (hfb3.trans HFB1.out)
    have HL3:=hide hpl3
    have HPF3:Hid (Pfr Z P w w3):=hide (HPF1.out.trans ((Pfr.ext HX2.out).trans hpf3 (Pk.Later.refl _ _ _)) HPN1.out)
    have HPN3:Hid (Z3.Later P Z P w):=hide (HPN1.out.trans (hpn3.up HX2.out.size) HPF1.out.size)
    clear hq3 hfb3 hpl3 hpf3 hpn3 HP3 k0 k2 hsw k0b k2b
    by_cases he2:e2=0
    ·subst he2
     have KST:=hide (psettle_any HL3.out)
     rw [HQ3.out] at KST
     obtain ⟨P4,HP4⟩:∃P4,Hid (settleP L1 P=P4):=⟨_,hide rfl⟩
     rw [HP4.out] at KST
     have HPH:Hid (P4.H=P.H):=hide (by rw [← HP4.out];exact (settleP_is L1 P).1)
     have HRES:Hid (rr=(0,⟨D2,L1,wayP P4 i f.since⟩)):=hide (by
      rw [← HRR.out]
      unfold storeR
      rw [HAH.out,if_neg (by exact fun hh=>hh rfl)]
      simp only [HPUT.out]
      rw [if_neg (by exact fun hh=>hh rfl),HP4.out])
     have HM4:Hid (P4.m < 1000000):=hide (by
      have h1:=(settleP_is L1 P).2.2.2.2.2.2.1
      rw [HP4.out] at h1
      have h2:P.m≤c:=FT.out.wcnt
      have h3:=HC.out
      omega)
     go_upto_region 10 with (go_at_call 74;(with_reducible refine KST.out.mono ?_);rintro e w4 ⟨rfl,hl4,hf4⟩;have HL4:=hide hl4;have HPF4:Hid (Pfr Z P w w4):=hide (HPF3.out.trans hf4 HPN3.out);clear hl4 hf4)
     have k6:=HL4.out.blk.cell (i:=6) rfl
     rw [HQ3.out] at k6
     obtain ⟨v6,ps6,hlk6,hv6⟩:=HL4.out.way.look_ok (t:=86) (e:=34) Tryz.underlying86 (z:= .int .u64 0) (by kernel_rfl) (zd:= .lit (.int .u64 0)) (zp:= []) rfl i HI5.out
     clear hv6
     cases hW:P4.W i with
     | some sv=>
      have hsm:(wayM P4 i).isSome=true:=by unfold wayM;rw [hW];rfl
      rw [hsm] at hlk6
      have HRES2:Hid (rr=(0,⟨D2,L1,P4⟩)):=hide (by rw [HRES.out];unfold wayP;rw [hW];rfl)
      clear hW hsm
      go_wp2
      go_ret
      rw [HRES2.out]
      exact ⟨Z3,rfl,HL4.out,HPF4.out,HPN3.out,HFB3.out⟩
     | none=>
      have hsm:(wayM P4 i).isSome=false:=by unfold wayM;rw [hW];rfl
      rw [hsm] at hlk6
      have HRES2:Hid (rr=(0,⟨D2,L1,{ P4 with W:=upM P4.W i (some f.since),m:=P4.m + 1 }⟩)):=hide (by rw [HRES.out];unfold wayP;rw [hW];rfl)
      go_upto_region 12 with fail
      have g507:=(fr_get FO.out.by_).2.2.2.1
      have HR4:Hid (Rw w4 b 103 (frC f)):=hide (by
       have hh:=HL4.out.fr i f (by rw [HPH.out];exact HF.out)
       rw [HFB3.out,HBI.out] at hh
       exact hh)
      have k507:=HR4.out.cell g507
      obtain ⟨w5,hrun5,hm5,ht5⟩:=(HL4.out.ext_ (Ext.drew w4)).way.put (t:=86) (e:=34) Tryz.underlying86 i HI5.out HM4.out (val:= .int .u64 (f.since:Int)) (d:= .lit (.int .u64 (f.since:Int))) (ps:= []) rfl
      rw [hsm] at hm5
      have HL5:=hide ((HL4.out.ext_ (Ext.drew w4)).wayIs (upM P4.W i (some f.since)) (P4.m + 1) ht5 (by
       have e1:wayM { P4 with W:=upM P4.W i (some f.since),m:=P4.m + 1 } =upM (wayM P4) i (some (.lit (.int .u64 (f.since:Int)))):=by
        funext j
        unfold wayM
        by_cases e:j=i
        ·subst e;simp [upM_same]
        ·simp [upM_other _ _ e]
       rw [e1]
       exact hm5))
      have HPF5:Hid (Pfr Z P w w5):=hide (HPF4.out.trans ((Pfr.ext (Ext.drew w4)).trans (Pfr.onMap ht5 (P:=P) (Z:=Z3) (.inr (.inr (.inr (.inl rfl))))) (Pk.Later.refl _ _ _)) HPN3.out)
      clear hW hsm hlk6 ht5 hm5 g507
      go_region
      go_wp2
      go_ret
      rw [HRES2.out]
      exact ⟨Z3,rfl,HL5.out,HPF5.out,HPN3.out,HFB3.out⟩
    ·have hee:(e2 !=0)=true:=by simpa using he2
     have HRES:Hid (rr=(e2,⟨D2,L1,P⟩)):=hide (by
      rw [← HRR.out]
      unfold storeR
      rw [HAH.out,if_neg (by exact fun hh=>hh rfl)]
      simp only [HPUT.out]
      rw [if_pos (by exact he2)])
     clear he2
     go_wp2
     go_ret
     rw [HRES.out]
     exact ⟨Z3,rfl,HL3.out,HPF3.out,HPN3.out,HFB3.out⟩
  ·have hee:(e1 !=0)=true:=by simpa using he1
   have HRES:Hid (rr=(e1,⟨D1,L1,P⟩)):=hide (by
    rw [← HRR.out]
    unfold storeR
    rw [HAH0.out,if_pos (by exact he1)])
   clear he1 hlk
   go_wp2_with (go_at_call 67;(with_reducible refine KFL.out.mono ?_);rintro e wv hp1;have HP1:=hide ((H.out.ext_ HXQ.out).of_logE hp1);obtain ⟨X1',rfl,-⟩:=hp1)
   go_ret
   rw [HRES.out]
   obtain ⟨Z1,-,hq1,hfb1,hpl1,hpf1,hpn1⟩:=HP1.out
   exact ⟨Z1,rfl,hpl1,(Pfr.ext HXQ.out).trans hpf1 (Pk.Later.refl _ _ _),hpn1.up HXQ.out.size,hfb1⟩
 ·have hhi:¬(su:Int)≤(hi:Int):=by omega
  obtain ⟨D1,HD1⟩:∃D1,Hid (D=D1):=⟨_,hide rfl⟩
  obtain ⟨L1,HL1⟩:∃L1,Hid (L=L1):=⟨_,hide rfl⟩
  have HAH:Hid (aheadR ⟨D,L,P⟩ f=(0,⟨D1,L1,P⟩)):=hide (by unfold aheadR;rw [if_neg (by show ¬L.sure≤f.hi;rw [HSU.out,HHI.out];exact hhs),← HD1.out,← HL1.out])
  have FT1:Hid (St.Fit ⟨D1,L1,P⟩ c):=hide (by rw [← HD1.out,← HL1.out];exact FT.out)
  obtain ⟨wv,HWQ⟩:∃wv,Hid (w.drewN nq=wv):=⟨_,hide rfl⟩
  have HXQ:Hid (Ext w wv):=hide (by rw [← HWQ.out];exact (Ext.refl _).drewN _)
  rw [HWQ.out]
  obtain ⟨Z1,HZ1⟩:∃Z1,Hid (Z=Z1):=⟨_,hide rfl⟩
  have HV:Hid (PlAt w0 wv Z1 D1 L1 P):=hide (by rw [← HD1.out,← HL1.out,← HZ1.out];exact H.out.ext_ HXQ.out)
  have HQ1:Hid (Z1.q=Z.q):=hide (by rw [HZ1.out])
  have HFB1:Hid (Z1.fb=Z.fb):=hide (by rw [HZ1.out])
  have HPF1:Hid (Pfr Z P w wv):=hide (Pfr.ext HXQ.out)
  have HPN1:Hid (Z1.Later P Z P w):=hide (by rw [← HZ1.out];exact Pk.Later.refl _ _ _)
  clear hhs c1 c5 k505
  have k0:=HV.out.blk.cell (i:=0) rfl
  have k2:=HV.out.blk.cell (i:=2) rfl
  rw [HQ1.out] at k0 k2
  obtain ⟨gd0,HGD⟩:∃gd0,Hid (Z1.X.g=gd0):=⟨_,hide rfl⟩
  rw [HGD.out] at k0
  obtain ⟨at0,HAT⟩:∃at0,Hid (P.at_=at0):=⟨_,hide rfl⟩
  rw [HAT.out] at k2
  have hsw:IntKind.i64.wrap ((at0:Int) + (i:Int))=s:=by rw [IntKind.wrap_i64];have h1:=HAP.out;rw [HAT.out] at h1;omega
  have KSE:Hid (∀W,Ext wv W→Calls Tryz.prog 110 #[.pointer (some ⟨b,0,none⟩)] W (fun e w' =>∃A c,e= .returned (.slice A 512 c)∧Rd w' A sb∧Ext W w')):=hide (fun W hW=>by
   have hr:=(HV.out.fr i f HF.out).ext hW
   rw [HFB1.out,HBI.out] at hr
   refine (fsector_any b f FO.out.by_ FO.out.last hr).mono fun e w' hh=> ?_
   obtain ⟨v,he,hx,A,c,hv,hcc,hrd⟩:=hh
   rw [HSB.out] at hv hrd
   rw [HSBL.out] at hv
   exact ⟨A,c,by rw [he,hv],hrd,hx⟩)
  obtain ⟨e2,HE2⟩:∃e2,Hid (wE D1 s sb=e2):=⟨_,hide rfl⟩
  obtain ⟨D2,HD2⟩:∃D2,Hid (wD D1 s sb=D2):=⟨_,hide rfl⟩
  have HPUT:Hid (putR ⟨D1,L1,P⟩ i f=(e2,⟨D2,L1,P⟩)):=hide (by unfold putR;rw [HS.out,HSB.out,← HE2.out,← HD2.out])
  have KWR:Hid (∀W,Ext wv W→∀A c,Rd W A sb→Calls Tryz.prog 46 #[.pointer (some ⟨gd0,0,none⟩), .int .i64 s, .slice A 512 c] W (DPost w0.heap.size Z1.X.g Z1.X.gd Z1.X.gn W Z1.X.A (.int .i64 e2) D2)):=hide (fun W hW A c hr=>by
   have k1:=write_uni (Pp:=A) (d:=c) (HV.out.log.disk.ext hW) FT1.out.bd (Nat.le_trans HV.out.log.ext.size hW.size) s sb 512 HSBL.out (by decide) hr
   rw [HGD.out,HE2.out,HD2.out] at k1
   rw [HGD.out]
   exact k1)
  clear hlk
  go_upto_region 6 with fail
  go_region_law (first
   | (go_simp;go_at_call 110;(with_reducible refine (KSE.out _ (Ext.drew _)).mono ?_);rintro e w2 ⟨A2,c2,rfl,hr2,hx2⟩;have HX2:Hid (Ext wv w2):=hide ((Ext.drew _).trans hx2);have HR2:=hide hr2;have k0b:=(HV.out.blk.ext HX2.out).cell (i:=0) rfl;have k2b:=(HV.out.blk.ext HX2.out).cell (i:=2) rfl;rw [HQ1.out] at k0b k2b;rw [HGD.out] at k0b;rw [HAT.out] at k2b;clear hr2 hx2)
   | (go_simp;go_at_call 46;(with_reducible refine (KWR.out w2 HX2.out A2 c2 HR2.out).mono ?_);rintro e w3 hp3;have HP3:=hide ((HV.out.ext_ HX2.out).of_logE (LPost.of_disk (HV.out.ext_ HX2.out).log hp3));obtain ⟨A3,c3,rfl,-⟩:=hp3))
  all_goals
   obtain ⟨Z3,-,hq3,hfb3,hpl3,hpf3,hpn3⟩:=HP3.out
   have HQ3:Hid (Z3.q=Z.q):=hide (hq3.trans HQ1.out)
   have HFB3:Hid (Z3.fb=Z.fb):=hide (hfb3.trans HFB1.out)
   have HL3:=hide hpl3
   have HPF3:Hid (Pfr Z P w w3):=hide (HPF1.out.trans ((Pfr.ext HX2.out).trans hpf3 (Pk.Later.refl _ _ _)) HPN1.out)
   have HPN3:Hid (Z3.Later P Z P w):=hide (HPN1.out.trans (hpn3.up HX2.out.size) HPF1.out.size)
   clear hq3 hfb3 hpl3 hpf3 hpn3 HP3 k0 k2 hsw k0b k2b
   by_cases he2:e2=0
   ·subst he2
    have KST:=hide (psettle_any HL3.out)
    rw [HQ3.out] at KST
    obtain ⟨P4,HP4⟩:∃P4,Hid (settleP L1 P=P4):=⟨_,hide rfl⟩
    rw [HP4.out] at KST
    have HPH:Hid (P4.H=P.H):=hide (by rw [← HP4.out];exact (settleP_is L1 P).1)
    have HRES:Hid (rr=(0,⟨D2,L1,wayP P4 i f.since⟩)):=hide (by
     rw [← HRR.out]
     unfold storeR
     rw [HAH.out,if_neg (by exact fun hh=>hh rfl)]
     simp only [HPUT.out]
     rw [if_neg (by exact fun hh=>hh rfl),HP4.out])
    have HM4:Hid (P4.m < 1000000):=hide (by
     have h1:=(settleP_is L1 P).2.2.2.2.2.2.1
     rw [HP4.out] at h1
     have h2:P.m≤c:=FT.out.wcnt
     have h3:=HC.out
     omega)
    go_upto_region 10 with (go_at_call 74;(with_reducible refine KST.out.mono ?_);rintro e w4 ⟨rfl,hl4,hf4⟩;have HL4:=hide hl4;have HPF4:Hid (Pfr Z P w w4):=hide (HPF3.out.trans hf4 HPN3.out);clear hl4 hf4)
    have k6:=HL4.out.blk.cell (i:=6) rfl
    rw [HQ3.out] at k6
    obtain ⟨v6,ps6,hlk6,hv6⟩:=HL4.out.way.look_ok (t:=86) (e:=34) Tryz.underlying86 (z:= .int .u64 0) (by kernel_rfl) (zd:= .lit (.int .u64 0)) (zp:= []) rfl i HI5.out
    clear hv6
    cases hW:P4.W i with
    | some sv=>
     have hsm:(wayM P4 i).isSome=true:=by unfold wayM;rw [hW];rfl
     rw [hsm] at hlk6
     have HRES2:Hid (rr=(0,⟨D2,L1,P4⟩)):=hide (by rw [HRES.out];unfold wayP;rw [hW];rfl)
     clear hW hsm
     go_wp2
     go_ret
     rw [HRES2.out]
     exact ⟨Z3,rfl,HL4.out,HPF4.out,HPN3.out,HFB3.out⟩
    | none=>
     have hsm:(wayM P4 i).isSome=false:=by unfold wayM;rw [hW];rfl
     rw [hsm] at hlk6
     have HRES2:Hid (rr=(0,⟨D2,L1,{ P4 with W:=upM P4.W i (some f.since),m:=P4.m + 1 }⟩)):=hide (by rw [HRES.out];unfold wayP;rw [hW];rfl)
     go_upto_region 12 with fail
     have g507:=(fr_get FO.out.by_).2.2.2.1
     have HR4:Hid (Rw w4 b 103 (frC f)):=hide (by
      have hh:=HL4.out.fr i f (by rw [HPH.out];exact HF.out)
      rw [HFB3.out,HBI.out] at hh
      exact hh)
     have k507:=HR4.out.cell g507
     obtain ⟨w5,hrun5,hm5,ht5⟩:=(HL4.out.ext_ (Ext.drew w4)).way.put (t:=86) (e:=34) Tryz.underlying86 i HI5.out HM4.out (val:= .int .u64 (f.since:Int)) (d:= .lit (.int .u64 (f.since:Int))) (ps:= []) rfl
     rw [hsm] at hm5
     have HL5:=hide ((HL4.out.ext_ (Ext.drew w4)).wayIs (upM P4.W i (some f.since)) (P4.m + 1) ht5 (by
      have e1:wayM { P4 with W:=upM P4.W i (some f.since),m:=P4.m + 1 } =upM (wayM P4) i (some (.lit (.int .u64 (f.since:Int)))):=by
       funext j
       unfold wayM
       by_cases e:j=i
       ·subst e;simp [upM_same]
       ·simp [upM_other _ _ e]
      rw [e1]
      exact hm5))
     have HPF5:Hid (Pfr Z P w w5):=hide (HPF4.out.trans ((Pfr.ext (Ext.drew w4)).trans (Pfr.onMap ht5 (P:=P) (Z:=Z3) (.inr (.inr (.inr (.inl rfl))))) (Pk.Later.refl _ _ _)) HPN3.out)
     clear hW hsm hlk6 ht5 hm5 g507
     go_region
     go_wp2
     go_ret
     rw [HRES2.out]
     exact ⟨Z3,rfl,HL5.out,HPF5.out,HPN3.out,HFB3.out⟩
   ·have hee:(e2 !=0)=true:=by simpa using he2
    have HRES:Hid (rr=(e2,⟨D2,L1,P⟩)):=hide (by
     rw [← HRR.out]
     unfold storeR
     rw [HAH.out,if_neg (by exact fun hh=>hh rfl)]
     simp only [HPUT.out]
     rw [if_pos (by exact he2)])
    clear he2
    go_wp2
    go_ret
    rw [HRES.out]
    exact ⟨Z3,rfl,HL3.out,HPF3.out,HPN3.out,HFB3.out⟩
end
theorem gives_del {P:Program} {o:Oper} {a:Act} {w:World} {R:Value→World→Prop} {x y:Operand} {t k:TypeId} {u z v:Value} {w':World} (h:o.op= .call { callee:= .builtin .delete,args:= #[x,y],argTypes:= #[t,k] }) (hx:a.eval x=u) (hy:a.eval y=z)
  (hrun:(Builtin.delete_ #[t,k] o.type #[u,z]).run P w= .ok v w') (hR:R v w'):gives P o a w R:=by
 refine gives_of_run (w':=w') (v:=v) ?_ hR
 unfold execOp
 simp only [h,resolve,invoke,builtin,Sem.run_bind,Sem.run_pure,Result.andThen_ok,List.map_toArray,List.map_cons,List.map_nil,hx,hy,hrun]
theorem Pk.Later.fewer {Z' Z:Pk} {P' P1 P:Pl} {w:World} (h:Z'.Later P1 Z P w) (hs:∀j g,P'.H j=some g→∃g',P1.H j=some g'):Z'.Later P' Z P w:=⟨h.q,h.hb,h.ob,h.X,fun k hk=>h.has k (by
 rcases hk with hk | hk | hk | hk | ⟨j,g,hj,hk⟩
 ·exact .inl hk
 ·exact .inr (.inl hk)
 ·exact .inr (.inr (.inl hk))
 ·exact .inr (.inr (.inr (.inl hk)))
 ·obtain ⟨g',hg⟩:=hs j g hj
  exact .inr (.inr (.inr (.inr ⟨j,g',hg,hk⟩))))⟩
section
variable {w0 w:World} {Z:Pk} {D:Dk} {L:Lg} {P:Pl}
theorem held_look (h:PlAt w0 w Z D L P) {i:Nat} (hi:i < 100000):∀n,(Instr.lookup 85 (.map (some Z.hb)) (.int .i64 (i:Int)) false).run Tryz.prog (w.drewN n)= .ok (match P.H i with | some _=> .pointer (some ⟨Z.fb i,0,none⟩) | none=> .pointer none) (w.drewN n):=fun n=>by
 obtain ⟨v,ps,hlk,hv⟩:=(h.ext_ ((Ext.refl _).drewN n)).held.look (t:=85) (e:=97) Tryz.underlying85 (z:= .pointer none) (by kernel_rfl) (zd:= .lit (.int .i64 (-1))) (zp:= []) rfl i hi
 unfold heldM at hv
 cases hH:P.H i with
 | none=>
  rw [hH] at hv
  rw [hlk,ptrR_none hv]
 | some f=>
  rw [hH] at hv
  rw [hlk,ptrR_is (b:=Z.fb i) hv]
def RmPost (w0 w:World) (Z:Pk) (P:Pl) (r:Int×St) (e:Ending) (w':World):Prop:=∃Z',e= .returned (.int .i64 r.1)∧PlAt w0 w' Z' r.2.D r.2.L r.2.P∧Pfr Z P w w'∧Z'.Later r.2.P Z P w∧Z'.fb=Z.fb
theorem makeRoom_any {c:Nat} (h:PlAt w0 w Z D L P) (ft:St.Fit ⟨D,L,P⟩ c) (hc:c≤400000) (hT:Tab w0):
  Calls Tryz.prog 100 #[.pointer (some ⟨Z.q,0,none⟩)] w (RmPost w0 w Z P (roomR ⟨D,L,P⟩)):=by
 have H:=hide h
 have FT:=hide ft
 have HT:=hide hT
 have HC:=hide hc
 have c4:=h.blk.cell (i:=4) rfl
 have c5:=h.blk.cell (i:=5) rfl
 obtain ⟨n,HN⟩:∃n,Hid (P.n=n):=⟨_,hide rfl⟩
 obtain ⟨fr,HFR⟩:∃fr,Hid (P.frames=fr):=⟨_,hide rfl⟩
 have hlen:∀k,(Builtin.len_ #[85] 3 #[.map (some Z.hb)]).run Tryz.prog (w.drewN k)= .ok (.int .i64 (n:Int)) (w.drewN k):=fun k=>by
  have h1:=(h.ext_ ((Ext.refl _).drewN k)).held.len (t:=85) Tryz.underlying85 3
  rw [HN.out] at h1
  exact h1
 rw [HFR.out] at c4
 obtain ⟨rr,HRR⟩:∃rr,Hid (roomR ⟨D,L,P⟩=rr):=⟨_,hide rfl⟩
 rw [HRR.out]
 have KID:=hide (fun (W:World) (hW:Ext w W)=>idle_any (h.ext_ hW) FT.out.pool)
 clear h ft hT hc
 go_enter Tryz.func100,Tryz.ntmps100
 go_upto_region 1 with fail
 by_cases hnf:n < fr
 ·have hni:(n:Int) < (fr:Int):=by omega
  have HRES:Hid (rr=(0,⟨D,L,P⟩)):=hide (by rw [← HRR.out];unfold roomR;rw [if_pos (by show P.n < P.frames;rw [HN.out,HFR.out];exact hnf)])
  go_quiet (fail)
  go_wp2
  go_ret
  rw [HRES.out]
  exact ⟨Z,rfl,H.out.ext_ ((Ext.refl _).drewN _),Pfr.ext ((Ext.refl _).drewN _),Pk.Later.refl _ _ _,rfl⟩
 ·have hni:¬(n:Int) < (fr:Int):=by omega
  have HR0:Hid (rr=(match idle P.H P.pages with
   | none=>(9,⟨D,L,P⟩)
   | some i=>match P.H i with
    | none=>(9,⟨D,L,P⟩)
    | some f=>if f.ch=true then (if (storeR ⟨D,L,P⟩ i f).1≠0 then storeR ⟨D,L,P⟩ i f else (0,{ (storeR ⟨D,L,P⟩ i f).2 with P:=dropP (storeR ⟨D,L,P⟩ i f).2.P i })) else (0,⟨D,L,dropP P i⟩))):=hide (by rw [← HRR.out];unfold roomR;rw [if_neg (by show ¬P.n < P.frames;rw [HN.out,HFR.out];exact hnf)];rfl)
  cases hid:idle P.H P.pages with
  | none=>
   have HV:Hid (idlV P= .tuple #[.int .i64 0, .bool false]):=hide (by unfold idlV;rw [hid])
   have HRES:Hid (rr=(9,⟨D,L,P⟩)):=hide (by rw [HR0.out,hid])
   rw [HV.out] at KID
   clear hid
   go_quiet (fail)
   go_wp2_with (go_at_call 127;(with_reducible refine (KID.out _ ((Ext.refl _).drewN _)).mono ?_);rintro e w2 ⟨rfl,hx2⟩;have HX2:=hide hx2;clear hx2)
   go_ret
   rw [HRES.out]
   have hx:Ext w w2:=((Ext.refl w).drewN _).trans HX2.out
   exact ⟨Z,rfl,H.out.ext_ hx,Pfr.ext hx,Pk.Later.refl _ _ _,rfl⟩
  | some i=>
   obtain ⟨f,hf,hp0,hip⟩:=idle_is hid
   have HF:=hide hf
   have HV:Hid (idlV P= .tuple #[.int .i64 (i:Int), .bool true]):=hide (by unfold idlV;rw [hid])
   have HRES:Hid (rr=if f.ch=true then (if (storeR ⟨D,L,P⟩ i f).1≠0 then storeR ⟨D,L,P⟩ i f else (0,{ (storeR ⟨D,L,P⟩ i f).2 with P:=dropP (storeR ⟨D,L,P⟩ i f).2.P i })) else (0,⟨D,L,dropP P i⟩)):=hide (by rw [HR0.out,hid];simp only [hf])
   have HI5:Hid (i < 100000):=hide (by
    have h2:P.at_ + P.pages≤D.dur.length:=FT.out.pool.at_
    have h3:D.dur.length≤4096:=FT.out.pool.max
    omega)
   have hby:=(FT.out.pool.page i f hf).2.by_
   have HBY:=hide hby
   rw [HV.out] at KID
   clear hid hf hp0 hip hby
   go_quiet (fail)
   go_upto_region 6 with (go_at_call 127;(with_reducible refine (KID.out _ ((Ext.refl _).drewN _)).mono ?_);rintro e w2 ⟨rfl,hx2⟩;have HX2:Hid (Ext w w2):=hide (((Ext.refl w).drewN _).trans hx2);clear hx2)
   have HP2:=hide (H.out.ext_ HX2.out)
   have k5:=HP2.out.blk.cell (i:=5) rfl
   have hlk:=held_look HP2.out HI5.out 0
   rw [HF.out] at hlk
   have hlk:(Instr.lookup 85 (.map (some Z.hb)) (.int .i64 (i:Int)) false).run Tryz.prog w2= .ok (.pointer (some ⟨Z.fb i,0,none⟩)) w2:=hlk
   have k506:=(HP2.out.fr i f HF.out).cell (fr_get HBY.out).2.2.1
   have HKEY:Hid ((heldM Z P i).isSome=true):=hide (by unfold heldM;rw [HF.out];rfl)
   clear c4 c5 hlen KID
   cases hch:f.ch with
   | false=>
    rw [hch] at k506
    have HRES2:Hid (rr=(0,⟨D,L,dropP P i⟩)):=hide (by rw [HRES.out,hch,if_neg (by decide)])
    obtain ⟨w3,hrun,hm3,ht3⟩:=HP2.out.held.del (t:=85) (e:=97) Tryz.underlying85 i HI5.out 0
    rw [HKEY.out] at hm3
    have HRUN:=hide hrun
    have HD3:=hide (HP2.out.drop i ht3 hm3)
    have HT3:=hide ht3
    clear hch hrun hm3 ht3
    go_wp2_with ((with_reducible show wpList _ _ _ (⟨none, .call _,_,_,_,_⟩::_) _ _);refine wpList_gives (gives_del (x:= .tmp 41) (y:= .tmp 42) rfl rfl rfl HRUN.out ⟨rfl,rfl⟩) rfl ?_)
    go_ret
    rw [HRES2.out]
    exact ⟨Z,rfl,HD3.out,(Pfr.ext HX2.out).trans (Pfr.onMap HT3.out (P:=P) (.inr (.inr (.inl rfl)))) (Pk.Later.refl _ _ _),(Pk.Later.refl Z P w).fewer (fun j g hj=>⟨g,(upM_nil hj).2⟩),rfl⟩
   | true=>
    rw [hch] at k506
    obtain ⟨sr,HSR⟩:∃sr,Hid (storeR ⟨D,L,P⟩ i f=sr):=⟨_,hide rfl⟩
    have HRES2:Hid (rr=if sr.1≠0 then sr else (0,{ sr.2 with P:=dropP sr.2.P i })):=hide (by rw [HRES.out,hch,if_pos rfl,HSR.out])
    have KST:=hide (store_any HP2.out FT.out HC.out HF.out HT.out)
    rw [HSR.out] at KST
    have HSP:Hid (sr.2.P.H=P.H):=hide (by rw [← HSR.out];exact (storeR_P ⟨D,L,P⟩ i f).1)
    obtain ⟨se,sS⟩:=sr
    by_cases hse:se=0
    ·subst hse
     have HRES3:Hid (rr=(0,{ sS with P:=dropP sS.P i })):=hide (by rw [HRES2.out];exact if_neg (fun hh=>hh rfl))
     clear hch
     go_upto_region 10 with (go_at_call 73;(with_reducible refine KST.out.mono ?_);rintro e w3 ⟨Z3,rfl,hl3,hf3,hn3,hb3⟩;have HL3:=hide hl3;have HPF3:=hide hf3;have HPN3:=hide hn3;have HB3:=hide hb3;clear hl3 hf3 hn3 hb3)
     have m5:=HL3.out.blk.cell (i:=5) rfl
     rw [HPN3.out.q,HPN3.out.hb] at m5
     obtain ⟨w4,hrun,hm4,ht4⟩:=HL3.out.held.del (t:=85) (e:=97) Tryz.underlying85 i HI5.out 0
     have hks:(heldM Z3 sS.P i).isSome=true:=by
      unfold heldM
      have e1:sS.P.H i=some f:=by rw [HSP.out];exact HF.out
      rw [e1];rfl
     rw [hks] at hm4
     have HD4:=hide (HL3.out.drop i ht4 hm4)
     have HT4:=hide ht4
     rw [HPN3.out.hb] at hrun
     have HRUN:=hide hrun
     clear hrun hm4 ht4 hks hlk
     go_wp2_with ((with_reducible show wpList _ _ _ (⟨none, .call _,_,_,_,_⟩::_) _ _);refine wpList_gives (gives_del (x:= .tmp 41) (y:= .tmp 42) rfl rfl rfl HRUN.out ⟨rfl,rfl⟩) rfl ?_)
     go_ret
     rw [HRES3.out]
     refine ⟨Z3,rfl,HD4.out,((Pfr.ext HX2.out).trans HPF3.out (Pk.Later.refl _ _ _)).trans (Pfr.onMap HT4.out (P:=P) (Z:=Z3) (.inr (.inr (.inl rfl)))) (HPN3.out.up HX2.out.size),(HPN3.out.up HX2.out.size).fewer (fun j g hj=>⟨g, ?_⟩),HB3.out⟩
     have hj:=(upM_nil hj).2
     rw [HSP.out] at hj
     exact hj
    ·have hee:(se !=0)=true:=by simpa using hse
     have HRES3:Hid (rr=(se,sS)):=hide (by rw [HRES2.out];exact if_pos hse)
     clear hch hse
     go_wp2_with (go_at_call 73;(with_reducible refine KST.out.mono ?_);rintro e w3 ⟨Z3,rfl,hl3,hf3,hn3,hb3⟩;have HL3:=hide hl3;have HPF3:=hide hf3;have HPN3:=hide hn3;have HB3:=hide hb3;clear hl3 hf3 hn3 hb3)
     go_ret
     rw [HRES3.out]
     exact ⟨Z3,rfl,HL3.out,(Pfr.ext HX2.out).trans HPF3.out (Pk.Later.refl _ _ _),(HPN3.out.up HX2.out.size).fewer (fun j g hj=>⟨g,by rw [HSP.out] at hj;exact hj⟩),HB3.out⟩
end
end Go.Proofs.YthmdmgnhfhpcaaaGreatDoor
