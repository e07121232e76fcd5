/-
  What the card wants, part 15: SuV, SuX, SuW, SuY, SuZ, SvA, SvB.
-/
import Derived.Test.YthmdmgnhfhpcaaaGreatDoorPkCardSvE7
import Derived.Test.YthmdmgnhfhpcaaaGreatDoorPkCardSvE9
import Derived.Test.YthmdmgnhfhpcaaaGreatDoorPkCardSvE13
import Derived.Test.YthmdmgnhfhpcaaaGreatDoorPkCardSvE14
set_option linter.unusedVariables false
set_option linter.unusedSimpArgs false
set_option maxRecDepth 20000
set_option maxHeartbeats 12800000
namespace Go.Proofs.YthmdmgnhfhpcaaaGreatDoor
open Go.RowKit
section
variable {w0 w w':World} {Z Z':Pk} {g gd gn cA s n c f k x0:Nat} {A:Option Addr} {D:Dk} {L:Lg} {T:List UInt8}
theorem bgD_far (ha:Awk D) (hc:L.at_ + 1 + L.hd.cn≤D.dur.length) (h0:0 < L.hd.cn) (htl:L.tail.length≤480) (j:Nat) (hj:j < D.dur.length) (hf:L.at_ + 1 + L.hd.cn≤j):(bgD D L).at j=D.at j:=by
 have hs:secOf (nextL L) (flo L.sure) < L.at_ + 1 + L.hd.cn:=by
  have:=Nat.mod_lt (flo L.sure / 480) h0
  show L.at_ + 1 + flo L.sure / 480 % L.hd.cn < _
  omega
 obtain ⟨a1,a2,a3⟩:=awk_write ha L.at_ (bgB L) (by omega) (seal1_len _)
 have r1:(wD D (L.at_:Int) (bgB L)).at j=D.at j:=by rw [rg_at_wD ha L.at_ (bgB L) (by omega) (seal1_len _) j,if_neg (by omega)]
 unfold bgD bgS
 rw [a1,if_neg (fun e=>e rfl)]
 have hpl:(bgP L).length=512:=by unfold bgP partB;exact sealB_length (by simp [ptNs]) htl
 split
 ·obtain ⟨b1,b2,b3⟩:=awk_write a2 (secOf (nextL L) (flo L.sure)) (bgP L) (by rw [a3];omega) hpl
  rw [b1,if_neg (fun e=>e rfl),rg_at_sD b2 j (by rw [b3,a3];exact hj),rg_at_wD a2 _ (bgP L) (by rw [a3];omega) hpl j,if_neg (by omega),r1]
 ·rw [rg_at_sD a2 j (by rw [a3];exact hj),r1]
theorem Fal.sv (fa:Fal D L T) (hat:L.at_=0) (hcn:L.hd.cn=c) (hn:D.dur.length=n) (hc:16≤c) (hc2:c≤4000) (hn2:1 + c < n) (hm:n≤4096) (hf:1≤f∧f≤64) (ho:D.ops≤k) (hk:k≤300000) (hT:T.length≤2000000) (he:L.hd.ep + 1 < 1000000000000) (hpg:∀j,1 + c≤j→j < n→(frameB (D.at j)).last < T.length∨(frameB (D.at j)).last=0):
  opE D 0 (c:Int)=0∧Sv ⟨opD D 0 (c:Int),opL D 0,P0 (1 + c) (n - (1 + c)) f⟩ n c f (k + 3)∧Rg (opD D 0 (c:Int)) (opL D 0) T∧(opL D 0).sure=T.length∧(opL D 0).hd= { L.hd with ep:=L.hd.ep + 1 } ∧(opD D 0 (c:Int)).dur.length=n∧(∀j,j < n - (1 + c)→cont ⟨opD D 0 (c:Int),opL D 0,P0 (1 + c) (n - (1 + c)) f⟩ j=((frameB (D.at (1 + c + j))).by_,(frameB (D.at (1 + c + j))).last))∧(rhH D 0).fi=L.hd.fi∧(rhH D 0).st=L.hd.st:=by
 obtain ⟨o1,o2,o3,o4,o5⟩:=fa.open_ (by omega) he
 obtain ⟨-,r2⟩:=fa.rhE
 obtain ⟨-,d2,-⟩:=fa.op_bg
 have hfs:=fa.sure
 have htl:L.tail.length≤480:=by
  rw [fa.tail,hfs,List.length_drop]
  unfold flo
  omega
 have hfar:=fun j hj hf=>bgD_far fa.awk fa.at_ (by rw [hcn];omega) htl j hj hf
 rw [← d2] at hfar
 rw [hat,hcn] at o1 o2 o4 o5 hfar
 rw [hat] at o3 r2
 rw [show ((0:Nat):Int)=0 from rfl] at o1 o2 o3 o4 o5 r2 hfar
 rw [hn] at o5 hfar
 have hep:=nextL_hd fa.epo
 have hsu:(opL D 0).sure=T.length:=by rw [o3];exact hfs
 have hhd:(opL D 0).hd= { L.hd with ep:=L.hd.ep + 1 }:=by rw [o3];exact hep
 have hla:(opL D 0).at_=0:=by rw [o3];exact hat
 have hst:=fa.st
 have hat2:∀j,j < n - (1 + c)→(opD D 0 (c:Int)).at (1 + c + j)=D.at (1 + c + j):=fun j hj=>hfar _ (by omega) (by omega)
 refine ⟨o1,⟨⟨o2.awk, ?_,fun i g hg=>(by cases hg),fun i g hg=>(by cases hg),fun j hj=> ?_, ?_, ?_⟩,⟨.inl o2.pen,fun i s hi=>(by cases hi)⟩,⟨o2.bd,o2.ok, ?_, ?_, ?_,o2.tail_len, ?_,Nat.zero_le _,Nat.zero_le _⟩,⟨fun i g hg=>(by cases hg), .inl ?_⟩,rfl,rfl,rfl,o5, ?_, ?_⟩,o2,hsu,hhd,o5,fun j hj=> ?_,by rw [r2],by rw [r2]⟩
 ·show (opL D 0).at_ + 1 + (opL D 0).hd.cn≤1 + c
  rw [hla,hhd]
  show 0 + 1 + L.hd.cn≤1 + c
  omega
 ·have hj:j < n - (1 + c):=hj
  show (frameB ((opD D 0 (c:Int)).at (1 + c + j))).last < (opL D 0).sure∨(frameB ((opD D 0 (c:Int)).at (1 + c + j))).last=0
  rw [hat2 j hj,hsu]
  exact hpg (1 + c + j) (Nat.le_add_right _ _) (by omega)
 ·show (opL D 0).sure≤endOf (opL D 0)
  rw [o2.end_,hsu]
  exact Nat.le_refl _
 ·show 0 < (opL D 0).sure
  rw [hsu]
  omega
 ·show (P0 (1 + c) (n - (1 + c)) f).Ok (opD D 0 (c:Int)).dur.length
  rw [o5]
  exact P0_ok (by omega) hm (by omega) hf
 ·show (opD D 0 (c:Int)).pen.length≤_
  rw [o2.pen]
  exact Nat.zero_le _
 ·show (opD D 0 (c:Int)).ops≤_
  omega
 ·show (opL D 0).sure≤_
  rw [hsu]
  omega
 ·show 0 < f
  omega
 ·show (opL D 0).hd.cn=c
  rw [hhd]
  exact hcn
 ·show (opL D 0).hd.st < _∧(opL D 0).hd.st≤(opL D 0).sure
  rw [hhd,hsu]
  show L.hd.st < _∧L.hd.st≤T.length
  omega
 ·show ((frameB ((opD D 0 (c:Int)).at (1 + c + j))).by_,(frameB ((opD D 0 (c:Int)).at (1 + c + j))).last)=_
  rw [hat2 j hj]
structure Opd (w0 w:World) (g:Nat) (n c f k:Nat) (T:List UInt8) (RE:Sr) (C:Nat→List UInt8×Nat) (s:Nat) (Z:Pk) (S:St):Prop where
 g:Z.X.g=g
 sto:StoAt w0 w Z s S RE
 sv:Sv S n c f k
 rg:Rg S.D S.L T
 sure:S.L.sure=T.length
 st:S.L.hd.st=T.length
 cont:∀i,i < n - (1 + c)→cont S i=C i
theorem sv_open (hx0:Ext w0 w) (h:DiskAt w0.heap.size w g gd gn A cA D) (fa:Fal D L T) (hat:L.at_=0) (hcn:L.hd.cn=c) (hn:D.dur.length=n) (hc:16≤c) (hc2:c≤4000) (hn2:1 + c < n) (hm:n≤4096) (hf:1≤f∧f≤64) (ho:D.ops≤k) (hTl:T.length≤2000000) (he:L.hd.ep + 1 < 1000000000000) (hpg:∀j,1 + c≤j→j < n→(frameB (D.at j)).last < T.length∨(frameB (D.at j)).last=0)
  (hT:Tab w0) (hsort:SortC) (l:List (List UInt8)) (rs:List Rec) (hr:Rcs l rs) (hH:T.drop L.hd.st=recsB l) (hck:L.hd.ck≤L.hd.st) (hll:l.length < 2000)
  (hend:(RL (Sr0 c) (plL L.hd.st l) (rcL rs) l.length).op=false) (j0:Nat) (hfr:FromAt (ML (plL L.hd.st l) (rcL rs) l.length) T.length (plL L.hd.st l j0))
  (hx:∀j,j < l.length→isCh (rcL rs j)=true→(rcL rs j).pg=(x0:Int)) (hx1:x0 < n - (1 + c)) (hk:k + 3 + l.length * (c + c + 8) + 64 * (c + 3) + 20≤280000):
  Calls Tryz.prog 8 #[.pointer (some ⟨g,0,none⟩), .int .i64 (c:Int), .int .i64 (f:Int)] w (fun e w' =>∃s,e= .returned (.tuple #[.pointer (some ⟨s,0,none⟩), .int .i64 0])∧∃Z S,Opd w0 w' g n c f (k + 3 + l.length * (c + c + 8) + 64 * (c + 3) + 3) T (RL (Sr0 c) (plL L.hd.st l) (rcL rs) l.length)
   (CR (ML (plL L.hd.st l) (rcL rs) l.length) (plL (plL L.hd.st l j0) (l.drop j0)) (rcL (rs.drop j0)) (cont ⟨opD D 0 (c:Int),opL D 0,P0 (1 + c) (n - (1 + c)) f⟩) (l.drop j0).length) s Z S):=by
 obtain ⟨o1,o2,o3,o4,o5,o6,o7,o8,o9⟩:=fa.sv (f:=f) hat hcn hn hc hc2 hn2 hm hf ho (by omega) hTl he hpg
 have hst:=fa.st
 have hb:=fa.big
 refine sopen_ok hx0 h fa.bd (by rw [fa.pen];decide) (by omega) hT c f (by unfold stFitsE;rw [hn,if_neg (by omega)]) (by rw [hn];exact hn2) hf (by rw [o8];omega) (by rw [o9];omega) o1 (by rw [o6,hn]) _ fun W Z s hW hg=> ?_
 rw [hn] at hW
 have e1:(opL D 0).hd.st=L.hd.st:=by rw [o5]
 have kk:=sv_restore (x0:=x0) (j0:=j0) hW o2 o3 o4 hT hsort l rs hr (by show T.drop (opL D 0).hd.st=_;rw [e1];exact hH) (by show (opL D 0).hd.ck≤(opL D 0).hd.st;rw [o5];exact hck) hll (by show (RL (Sr0 c) (plL (opL D 0).hd.st l) (rcL rs) l.length).op=false;rw [e1];exact hend) (by show FromAt (ML (plL (opL D 0).hd.st l) (rcL rs) l.length) T.length (plL (opL D 0).hd.st l j0);rw [e1];exact hfr) hx hx1 (.inr (by show 0 < f;omega)) (by omega) (by omega)
 refine kk.mono fun e w' hh=> ?_
 obtain ⟨he,Z',S',h1,h2,h3,h4,h5,h6,h7⟩:=hh
 have h2:StoAt w0 w' Z' s S' (RL (Sr0 c) (plL (opL D 0).hd.st l) (rcL rs) l.length):=h2
 have h7:∀i,i < n - (1 + c)→cont S' i=CR (ML (plL (opL D 0).hd.st l) (rcL rs) l.length) (plL (plL (opL D 0).hd.st l j0) (l.drop j0)) (rcL (rs.drop j0)) (cont ⟨opD D 0 (c:Int),opL D 0,P0 (1 + c) (n - (1 + c)) f⟩) (l.drop j0).length i:=h7
 rw [e1] at h2 h7
 exact ⟨he,Z',S',h1.trans hg,h2,h3,h4,h5,h6,h7⟩
end
section
variable {w0 w w':World} {Z Z':Pk} {s n c f k:Nat} {S S1 S2:St} {R R' R2:Sr} {H:List UInt8}
theorem NewS.sv (h:NewS n c f S) (hn:1 + c < n) (hf:1≤f):Sv S n c f (n + 20):=by
 obtain ⟨p1,p2,p3,p4,p5,p6⟩:=h.P
 refine ⟨h.good hn,⟨.inl h.rg.pen,fun i s hi=>(by rw [h.W] at hi;cases hi)⟩,h.fit,⟨fun i g hg=>(by rw [h.H] at hg;cases hg), .inl (by rw [p2,p5];omega)⟩,p4,p5,p3,h.len,h.hd.1,by rw [h.hd.2.1,h.hd.2.2.2.2.1];decide⟩
theorem Sv.lflush (h:Sv S n c f k) (hk:k + c + 4≤300000):flE S.D S.L=0∧Sv ⟨flD S.D S.L,flL S.D S.L,S.P⟩ n c f (k + c + 4)∧endOf (flL S.D S.L)=endOf S.L∧(flL S.D S.L).sure=endOf S.L∧(flL S.D S.L).hd=S.L.hd∧(flL S.D S.L).held=S.L.held∧(flL S.D S.L).at_=S.L.at_∧(∀j,j < n - (1 + c)→(flD S.D S.L).at (S.P.at_ + j)=S.D.at (S.P.at_ + j))∧∀j,j < n - (1 + c)→cont ⟨flD S.D S.L,flL S.D S.L,S.P⟩ j=cont S j:=by
 have g:=h.good
 have hcn:0 < S.L.hd.cn:=by have:=h.fit.log.cn;omega
 have hat:=h.fit.log.at_
 obtain ⟨e1,e2,e3,e4,e5⟩:=fl_good (L:=S.L) g.awk hat hcn
 obtain ⟨q1,q2,q3,q4,q5⟩:=flL_hd S.D S.L
 have hsec:∀j,j < n - (1 + c)→∀a,secOf S.L a≠S.P.at_ + j:=fun j hj=>sec_far g hcn j
 have hlt:∀j,j < n - (1 + c)→S.P.at_ + j < S.D.dur.length:=fun j hj=>by rw [h.at_,h.dur];omega
 have hat2:∀j,j < n - (1 + c)→(flD S.D S.L).at (S.P.at_ + j)=S.D.at (S.P.at_ + j):=fun j hj=>e5 _ (hlt j hj) (hsec j hj)
 have hcc:=h.cn
 have hc4:=h.fit.log.cn.2
 obtain ⟨b1,b2,b3,b4⟩:=flD_bd (D:=S.D) (L:=S.L) (T:=480 * S.L.hd.cn) h.fit.tail h.fit.bd (by have:=h.fit.pen;omega) (by have:=h.fit.ops;omega)
 have hsu:=h.fit.sure
 have htl:=h.fit.tail
 have hp:=h.fit.pool
 have hok:(flL S.D S.L).Ok (flD S.D S.L):=flL_ok h.fit.log (by omega) b4
 have hpen:(flD S.D S.L).pen= []∨((flD S.D S.L)=S.D∧flL S.D S.L=S.L):=by
  by_cases hs:S.L.sure=endOf S.L
  ·right
   refine ⟨?_, ?_⟩
   ·unfold flD;rw [if_neg (by rw [g.awk.1];decide),if_pos hs]
   ·unfold flL;rw [if_neg (fun hh=>hh.2 hs)]
  ·left
   have hz:=awk_flW S.L hat hcn S.L.tail.length 0 S.D g.awk rfl
   have hz1:(flZ S.D S.L).1=0:=hz.1
   unfold flD
   rw [if_neg (by rw [g.awk.1];decide),if_neg hs,hz1,if_neg (by decide)]
   exact sD_pen hz.2.1
 refine ⟨e1,⟨⟨e2,by show (flL S.D S.L).at_ + 1 + (flL S.D S.L).hd.cn≤_;rw [q1,q2];exact g.apart,fun j f hj hc' => ?_,fun j f hj=> ?_,fun j hj=> ?_, ?_, ?_⟩,⟨?_,h.way.cnt⟩,⟨b1,hok,⟨by show _≤(flD S.D S.L).dur.length;rw [b4];exact hp.at_,by rw [b4];exact hp.max,hp.pages,hp.frames,hp.page,hp.one,hp.cnt,hp.way,hp.sure⟩,by show (flD S.D S.L).pen.length≤_;have:=h.fit.pen;omega,by show (flD S.D S.L).ops≤_;have:=h.fit.ops;omega,by show (flL S.D S.L).tail.length≤480 * (flL S.D S.L).hd.cn;rw [q1];omega,by show (flL S.D S.L).sure≤_;omega,by have:=h.fit.asked;show S.P.asked≤_;omega,by have:=h.fit.wcnt;show S.P.m≤_;omega⟩,h.can,h.pages,h.frames,h.at_,by show (flD S.D S.L).dur.length=_;rw [b4];exact h.dur,by show (flL S.D S.L).hd.cn=_;rw [q1];exact h.cn, ?_⟩,e4,e3,q1,q3,q2,hat2,fun j hj=> ?_⟩
 ·show _=((frameB ((flD S.D S.L).at (S.P.at_ + j))).by_,(frameB ((flD S.D S.L).at (S.P.at_ + j))).last)
  rw [hat2 j (by rw [← h.pages];exact (hp.page j f hj).1)]
  exact g.same j f hj hc'
 ·show f.hi < endOf (flL S.D S.L)∧_
  rw [e4]
  exact g.ahead j f hj
 ·show (frameB ((flD S.D S.L).at (S.P.at_ + j))).last < (flL S.D S.L).sure∨_
  rw [hat2 j (by rw [← h.pages];exact hj),e3]
  rcases g.wal j hj with h1 | h1
  ·exact .inl (Nat.lt_of_lt_of_le h1 g.sure)
  ·exact .inr h1
 ·show (flL S.D S.L).sure≤endOf (flL S.D S.L)
  rw [e3,e4]
  exact Nat.le_refl _
 ·show 0 < (flL S.D S.L).sure
  rw [e3]
  exact Nat.lt_of_lt_of_le g.pos g.sure
 ·rcases hpen with h1 | ⟨h1,h2⟩
  ·exact .inl h1
  ·show (flD S.D S.L).pen= []∨(S.P.m≠0∧¬S.P.sure < (flL S.D S.L).sure)
   rw [h1,h2]
   exact h.way.pen
 ·show (flL S.D S.L).hd.st < _∧(flL S.D S.L).hd.st≤(flL S.D S.L).sure
  rw [q1,e3]
  exact ⟨h.st.1,Nat.le_trans h.st.2 g.sure⟩
 ·unfold cont
  show (match S.P.H j with | some f=>_ | none=>((frameB ((flD S.D S.L).at (S.P.at_ + j))).by_,(frameB ((flD S.D S.L).at (S.P.at_ + j))).last))=_
  rw [hat2 j hj]
  all_goals rfl
def beS (S:St) (t:Nat):St:=⟨S.D,apL S.L (plainB 1 t 0) ((23:Nat):Int),S.P⟩
def beR (R:Sr) (e:Nat):Sr:= { R with begun:=R.begun + 1,op:=true,number:=R.begun + 1,first:=e,last:=e }
theorem Sv.tail_lt (h:Sv S n c f k):S.L.tail.length < 500000000:=by
 have h1:=h.fit.tail
 have h2:=h.fit.log.cn.2
 omega
theorem Sv.begin (h:Sv S n c f k) (t:Nat) (hr:38≤roomOf S.L):apE S.L 13 ((23:Nat):Int)=0∧Sv (beS S t) n c f k∧endOf (beS S t).L=endOf S.L + 15∧roomOf (beS S t).L=roomOf S.L - 38∧(beS S t).L.hd=S.L.hd∧(beS S t).L.sure=S.L.sure:=by
 have hl:=plain1_len t
 obtain ⟨a1,a2,a3,a4,a5,a6⟩:=h.app (plainB 1 t 0) 23 (by rw [hl];decide) (by rw [hl];omega)
 rw [hl] at a1 a3 a4
 exact ⟨a1,a2,a3,by show roomOf (apL _ _ _)=_;rw [a4];omega,a5,a6⟩
theorem sv_begin (h:StoAt w0 w Z s S R) (sv:Sv S n c f k) (hc:c≤4096) (hT:Tab w0) (hr:readyE S.D R=0) (hop:R.op=false) (hcnt:R.count=c) (hbg:R.begun < 100000000000) (hroom:((c / 2 * 480:Nat):Int)≤roomOf S.L) (h38:38≤roomOf S.L):
  Calls Tryz.prog 10 #[.pointer (some ⟨s,0,none⟩)] w (SoPost w0 w Z s S.P (.tuple #[.int .u64 ((R.begun + 1:Nat):Int), .int .i64 0]) (beS S (R.begun + 1)) (beR R (endOf S.L))):=by
 obtain ⟨a1,-⟩:=sv.begin (R.begun + 1) h38
 have hst:=sv.st
 refine sBegin_ok (S2:=beS S (R.begun + 1)) (R2:=beR R (endOf S.L)) h hr hop fun W hW=> ?_
 have k:=sbegin_ok hW sv.fit.log (by omega) sv.tail_lt hT (by omega) (by omega) (by rw [hcnt];omega) (by rw [plain1_len];decide) (by rw [plain5_len];decide) (by rw [plain1_len,plain5_len];exact a1)
 rw [plain5_len] at k
 exact k
def cmL (S:St) (R:Sr):Lg:=apL (relL S.L S.L.held) (plainB 4 R.number R.last) ((0:Nat):Int)
def cmS (S:St) (R:Sr):St:=⟨flD S.D (cmL S R),flL S.D (cmL S R),S.P⟩
theorem Sv.rel (h:Sv S n c f k) (m:Nat):Sv ⟨S.D,relL S.L m,S.P⟩ n c f k:=⟨⟨h.good.awk,h.good.apart,h.good.same,h.good.ahead,h.good.wal,h.good.sure,h.good.pos⟩,⟨h.way.pen,h.way.cnt⟩,⟨h.fit.bd,relL_ok h.fit.log m,h.fit.pool,h.fit.pen,h.fit.ops,h.fit.tail,h.fit.sure,h.fit.asked,h.fit.wcnt⟩,h.can,h.pages,h.frames,h.at_,h.dur,h.cn,h.st⟩
theorem rel_room (L:Lg):roomOf (relL L L.held)=roomOf L + (L.held:Int):=by
 unfold roomOf
 show ((((L.hd.st / 480 + L.hd.cn) * 480:Nat):Int)) - (endOf L:Int) - ((L.held - L.held:Nat):Int)=_
 omega
theorem Sv.commit (h:Sv S n c f k) (hk:k + c + 4≤300000) (R:Sr) (hr:23≤roomOf S.L + (S.L.held:Int)):
  apE (relL S.L S.L.held) 21 ((0:Nat):Int)=0∧(⟨S.D,cmL S R,S.P⟩:St).Fit k∧flE S.D (cmL S R)=0∧Sv (cmS S R) n c f (k + c + 4)∧endOf (cmS S R).L=endOf S.L + 23∧(cmS S R).L.sure=endOf S.L + 23∧(cmS S R).L.hd=S.L.hd∧(cmS S R).L.held=0∧(∀j,j < n - (1 + c)→(cmS S R).D.at (S.P.at_ + j)=S.D.at (S.P.at_ + j))∧∀j,j < n - (1 + c)→cont (cmS S R) j=cont S j:=by
 have hl:=plain4_len R.number R.last
 have hro:=rel_room S.L
 have h1:=h.rel S.L.held
 obtain ⟨a1,a2,a3,a4,a5,a6⟩:=h1.app (plainB 4 R.number R.last) 0 (by rw [hl];decide) (by rw [hl];show _≤roomOf (relL S.L S.L.held);rw [hro];omega)
 rw [hl] at a1 a3
 have a3:endOf (cmL S R)=endOf S.L + 23:=a3
 have a5:(cmL S R).hd=S.L.hd:=a5
 have hheld:(cmL S R).held=0:=by
  have e:cmL S R=addL (heldL (relL S.L S.L.held) ((0:Nat):Int)) (plainB 4 R.number R.last):=by
   unfold cmL apL
   rw [hl]
   have a1:apE (relL S.L S.L.held) 21 ((0:Nat):Int)=0:=a1
   rw [a1,if_pos rfl]
  rw [e]
  show S.L.held - S.L.held + 0=0
  omega
 obtain ⟨b1,b2,b3,b4,b5,b6,b7,b8,b9⟩:=a2.lflush hk
 refine ⟨a1,a2.fit,b1,b2, ?_, ?_, ?_, ?_,b8,fun j hj=>(b9 j hj).trans rfl⟩
 ·show endOf (flL S.D (cmL S R))=_
  exact b3.trans a3
 ·exact b4.trans a3
 ·exact b5.trans a5
 ·exact b6.trans hheld
theorem sv_commit (h:StoAt w0 w Z s S R) (sv:Sv S n c f k) (hk:k + c + 4≤300000) (hT:Tab w0) (hin:inTxE S.D R=0) (hnum:R.number < 18446744073709551616∧R.last < 18446744073709551616∧0 < R.last) (hr:23≤roomOf S.L + (S.L.held:Int)):
  Calls Tryz.prog 13 #[.pointer (some ⟨s,0,none⟩)] w (SoPost w0 w Z s S.P (.int .i64 0) (cmS S R) (noTx R)):=by
 obtain ⟨a1,a2,a3,-⟩:=sv.commit hk R hr
 have hst:=sv.st
 refine sCommit_ok h hin fun W hW=> ?_
 have kk:=scommit_ok hW sv.fit.log (by omega) sv.tail_lt hT hnum.1 hnum.2.1 (by unfold formN chgN chkN;simp [hok,hpv,hch,hbf,hnx,hck]) (by rw [plain4_len];decide) (by rw [plain4_len];exact a1) (cmL S R) rfl a2 (by omega)
 rw [a3] at kk
 exact kk
end
def lbodS (p:List UInt8) (a:Nat):Nat→List UInt8
 | 0=>List.replicate 504 0
 | i + 1=>(lbodS p a i).set ((a + i) % 504) (p.getD i 0)
def lbodB (p:List UInt8) (a:Nat):List UInt8:=lbodS p a (min p.length 504)
theorem lbodS_len (p:List UInt8) (a:Nat):∀i,(lbodS p a i).length=504
 | 0=>List.length_replicate
 | i + 1=>by
  show ((lbodS p a i).set _ _).length=504
  rw [List.length_set]
  exact lbodS_len p a i
theorem lbodB_len (p:List UInt8) (a:Nat):(lbodB p a).length=504:=lbodS_len _ _ _
def BodP (w:World) (p:List UInt8) (a:Nat) (e:Ending) (w':World):Prop:=∃gq,e= .returned (.slice (some ⟨gq,0,none⟩) 504 504)∧w.heap.size≤gq∧Blk w' gq (lbodB p a)∧Ext w w'
section
variable {w:World}
theorem sbody_any (P:Option Addr) (p:List UInt8) (n cp:Nat) (hr:Rd w P p) (hp:p.length=n) (hn:n≤1000000) (a:Nat) (ha:a < 65536):
  Calls Tryz.prog 21 #[.slice P n cp, .int .u16 (a:Int)] w (BodP w p a):=by
 have HR:=hide hr
 have HP:=hide hp
 have HN:=hide hn
 have HA:=hide ha
 have HMW:Hid (∀W:World,(Instr.makeSlice 22 (.int .i64 504) (.int .i64 504)).run Tryz.prog W= .ok (.slice (some ⟨W.heap.size,0,none⟩) 504 504) (mkW 504 W)):=hide (fun W=>mkW_run 504 (by decide) W)
 obtain ⟨gq,HGQ⟩:∃gq,Hid (w.heap.size=gq):=⟨_,hide rfl⟩
 have HB0:Hid (Blk (mkW 504 w) gq (List.replicate 504 0)):=hide (by rw [← HGQ.out];exact Blk.made w 504)
 have HX0:Hid (Ext w (mkW 504 w)):=hide (mkW_ext 504 w)
 have hci:IntKind.i64.wrap (a:Int)=(a:Int):=by rw [IntKind.wrap_i64];omega
 clear hr hp hn ha
 go_enter Tryz.func21,Tryz.ntmps21
 go_upto_region 2 with ((with_reducible show wpList _ _ _ (⟨some 7,_,_,_,_,_⟩::_) _ _);refine wpList_gives (gives_make rfl rfl rfl (HMW.out w) ⟨rfl,rfl⟩) rfl ?_)
 rw [HGQ.out]
 obtain ⟨w1,HW1⟩:∃w1,Hid (mkW 504 w=w1):=⟨_,hide rfl⟩
 rw [HW1.out] at HB0 HX0 ⊢
 go_upto_region 3 with fail
 go_loopw [6] (fun v wr=>∃k:Nat,v= .int .i64 (k:Int)∧Hid (k≤n∧k≤504)∧Hid (Blk wr gq (lbodS p a k))∧Hid (Ext w wr)) (fun v _=>505 - (intOf v).toNat)
 case atStart=>exact ⟨0,rfl,hide ⟨Nat.zero_le _,Nat.zero_le _⟩,HB0,HX0⟩
 case round=>
  obtain ⟨k,rfl,HK,HB,HX⟩:=hrel
  clear HB0 HX0
  by_cases hk:k < n
  ·have hki:(k:Int) < (n:Int):=by omega
   by_cases hk5:k < 504
   ·have hk5i:(k:Int) < 504:=by omega
    obtain ⟨ab,ao,u,rfl,hu,hcx⟩:=(HR.out.ext HX.out).at (k:=k) (by rw [HP.out];exact hk)
    obtain ⟨o,HO⟩:∃o,Hid ((a + k) % 504=o):=⟨_,hide rfl⟩
    have HOL:Hid (o < 504):=hide (by rw [← HO.out];exact Nat.mod_lt _ (by decide))
    have hw1:IntKind.i64.wrap ((a:Int) + (k:Int))=((a + k:Nat):Int):=by rw [IntKind.wrap_i64];have:=HA.out;omega
    have hmo:(((a + k:Nat):Int)).tmod 504=(o:Int):=by rw [Int.tmod_eq_emod_of_nonneg (by omega),← HO.out];omega
    have hmo2:((a:Int) + (k:Int)).tmod 504=(o:Int):=by rw [Int.tmod_eq_emod_of_nonneg (by omega),← HO.out];omega
    have hmw:IntKind.i64.wrap (o:Int)=(o:Int):=by rw [IntKind.wrap_i64];have:=HOL.out;omega
    obtain ⟨k1,HK1⟩:∃k1,Hid (k + 1=k1):=⟨_,hide rfl⟩
    have hw2:IntKind.i64.wrap ((k:Int) + 1)=(k1:Int):=by rw [IntKind.wrap_i64];have:=HK1.out;omega
    have ho1:(o:Int) < 504:=by have:=HOL.out;omega
    have ho2:o < 504:=HOL.out
    obtain ⟨x0,hx0⟩:∃x0,(lbodS p a k)[o]? =some x0:=⟨_,List.getElem?_eq_getElem (by rw [lbodS_len];exact ho2)⟩
    have hcu:=HB.out.cell hx0
    have hfz:=HB.out.frozen o
    have HB2:Hid (Blk (wr.setCell ⟨gq,o,none⟩ (.int .u8 (u.toNat:Int))) gq (lbodS p a k1)):=hide (by
     have k2:=HB.out.set o (u.toNat:Int) (by omega) (by have:=u.toNat_lt;omega)
     have e1:b8 (u.toNat:Int)=u:=by
      have:=b8_toNat (n:=(u.toNat:Int)) (by omega) (by have:=u.toNat_lt;omega)
      apply UInt8.toNat_inj.1
      omega
     have e2:p.getD k 0=u:=by rw [List.getD_eq_getElem?_getD,hu];rfl
     rw [e1] at k2
     rw [← HK1.out]
     show Blk _ gq ((lbodS p a k).set ((a + k) % 504) (p.getD k 0))
     rw [HO.out,e2]
     exact k2)
    have HX3:Hid (Ext w (wr.setCell ⟨gq,o,none⟩ (.int .u8 (u.toNat:Int)))):=hide (Below.setCell (p:=⟨gq,o,none⟩) HX.out (by have:=HGQ.out;show w.heap.size≤gq;omega) _)
    have HKI:=hide (And.intro hk hk5)
    clear hk hk5 hu HB HX hx0
    go_wp2
    refine ⟨⟨k1,rfl,hide (by have:=HKI.out;have:=HK1.out;omega),HB2,HX3⟩, ?_⟩
    show 505 - ((k1:Int)).toNat < 505 - ((k:Int)).toNat
    have:=HKI.out;have:=HK1.out;omega
   ·obtain rfl:k=504:=by have:=HK.out.2;omega
    have HBF:Hid (Blk wr gq (lbodB p a)):=hide (by
     unfold lbodB
     rw [show min p.length 504=504 by rw [HP.out];omega]
     exact HB.out)
    have hk5i:¬((504:Nat):Int) < 504:=by decide
    clear hk hk5
    go_wp2
    go_ret
    exact ⟨gq,rfl,Nat.le_of_eq HGQ.out,HBF.out,HX.out⟩
  ·obtain rfl:k=n:=by have:=HK.out.1;omega
   have HBF:Hid (Blk wr gq (lbodB p a)):=hide (by
    unfold lbodB
    rw [show min p.length 504=k by rw [HP.out];have:=HK.out.2;omega]
    exact HB.out)
   clear hk
   go_wp2
   go_ret
   exact ⟨gq,rfl,Nat.le_of_eq HGQ.out,HBF.out,HX.out⟩
end
def awA:List UInt8:=lbodB [97] 0
def awB:List UInt8:=lbodB [98] 0
def awR:Sr:=beR (Sr0 20) 480
def awU (f:Nat) (o b:List UInt8):List UInt8:=updB awR 0 f o b
def awL (f:Nat) (o b:List UInt8):List (List UInt8):= [plainB 1 1 0,awU f o b,plainB 4 1 495]
def awRs (f:Nat) (o b:List UInt8):List Rec:= [⟨1,1,0,0,0, [], [],0, [],false⟩,⟨2,1,480,0,(f:Int),o,b,0, [],false⟩,⟨4,1,495,0,0, [], [],0, [],false⟩]
section
variable {f d k:Nat} {o b T:List UInt8} {S S0 S2 S5:St} {R2 R5:Sr} {pl:Nat→Nat}
theorem awU_len (ho:o.length=d) (hb:b.length=d):(awU f o b).length=27 + d + d:=by unfold awU;rw [updB_len,ho,hb]
theorem awR_rcs (ho:o.length=d) (hb:b.length=d) (hd:0 < d) (hf:f + d≤504):Rcs (awL f o b) (awRs f o b):=by
 refine ⟨rfl,fun j hj=> ?_⟩
 have hj:j < 3:=hj
 rcases (show j=0∨j=1∨j=2 by omega) with e | e | e <;> subst e
 ·refine ⟨⟨by show 0 < (plainB 1 1 0).length;rw [plain1_len];decide,by show (plainB 1 1 0).length≤_;rw [plain1_len];decide⟩, ?_,⟨by show (1:Int)≤1∧(1:Int)≤5;decide,⟨1,rfl⟩,⟨0,rfl,by decide⟩,0,rfl,by show 0 + 0≤504;decide⟩⟩
  exact decV_full 1 1 0 0 0 0 [] [] [] false (by decide) (by decide) (by decide) (by decide) (by decide) (by decide) (fun e he=>by cases he) (by decide)
 ·refine ⟨⟨by show 0 < (awU f o b).length;rw [awU_len ho hb];omega,by show (awU f o b).length≤_;rw [awU_len ho hb];omega⟩, ?_,⟨by show (1:Int)≤2∧(2:Int)≤5;decide,⟨1,rfl⟩,⟨0,rfl,by decide⟩,f,rfl,by show f + b.length≤504;rw [hb];exact hf⟩⟩
  exact decV_full 2 1 480 0 (f:Int) 0 o b [] false (by decide) (by decide) (by decide) (by decide) (by decide) (by decide) (fun e he=>by cases he) (by rw [ho,hb];exact form_upd 480 0 f d (by decide) hf hd)
 ·refine ⟨⟨by show 0 < (plainB 4 1 495).length;rw [plain4_len];decide,by show (plainB 4 1 495).length≤_;rw [plain4_len];decide⟩, ?_,⟨by show (1:Int)≤4∧(4:Int)≤5;decide,⟨1,rfl⟩,⟨0,rfl,by decide⟩,0,rfl,by show 0 + 0≤504;decide⟩⟩
  exact decV_full 4 1 495 0 0 0 [] [] [] false (by decide) (by decide) (by decide) (by decide) (by decide) (by decide) (fun e he=>by cases he) (by decide)
theorem awR_RL:RL (Sr0 20) pl (rcL (awRs f o b)) 3=Sr0 20:=rfl
theorem awR_ML:ML pl (rcL (awRs f o b)) 3=upM (fun _=>none) 0 (some (pl 1)):=rfl
theorem awL_1:plL 480 (awL f o b) 1=495:=by
 unfold plL awL
 show 480 + (recsB [plainB 1 1 0]).length=495
 rw [recsB_cons,recsB_nil,List.append_nil,frm_len,plain1_len]
theorem awR_from (hT:T.length=547 + d + d):FromAt (ML (plL 480 (awL f o b)) (rcL (awRs f o b)) 3) T.length (plL 480 (awL f o b) 1):=by
 rw [awR_ML,awL_1]
 refine ⟨by omega,fun i t hi=> ?_, .inr ⟨0,rfl⟩⟩
 by_cases e:i=0
 ·subst e
  rw [upM_same] at hi
  injection hi with hi
  omega
 ·rw [upM_other _ _ e] at hi
  cases hi
theorem awR_one (j:Nat) (hj:j < 3) (hc:isCh (rcL (awRs f o b) j)=true):(rcL (awRs f o b) j).pg=((0:Nat):Int):=by
 rcases (show j=0∨j=1∨j=2 by omega) with e | e | e <;> subst e <;> rfl
theorem awR_CR (C:Nat→List UInt8×Nat) (hC:C 0=(zB,0)):CR (ML (plL 480 (awL f o b)) (rcL (awRs f o b)) 3) (plL (plL 480 (awL f o b) 1) ((awL f o b).drop 1)) (rcL ((awRs f o b).drop 1)) C 2 0=(over zB f b,495):=by
 rw [awR_ML,awL_1]
 have e1:CR (upM (fun _=>none) 0 (some 495)) (plL 495 ((awL f o b).drop 1)) (rcL ((awRs f o b).drop 1)) C 1=fun j=>if j=0 then (over (C j).1 f b,495) else C j:=by
  have hd:due (upM (fun _=>none) 0 (some 495)) (plL 495 ((awL f o b).drop 1) 0) (rcL ((awRs f o b).drop 1) 0) C=true:=by
   unfold due
   show (true && decide (495≤495) && decide ((C 0).2 < 495))=true
   rw [hC]
   rfl
  show redo1 _ _ _ C=_
  unfold redo1
  rw [hd,if_pos rfl]
  rfl
 have e2:CR (upM (fun _=>none) 0 (some 495)) (plL 495 ((awL f o b).drop 1)) (rcL ((awRs f o b).drop 1)) C 2=CR (upM (fun _=>none) 0 (some 495)) (plL 495 ((awL f o b).drop 1)) (rcL ((awRs f o b).drop 1)) C 1:=by
  show redo1 _ _ _ _=_
  unfold redo1
  rw [if_neg]
  intro h
  have h0:isCh (rcL ((awRs f o b).drop 1) 1)=false:=rfl
  unfold due at h
  rw [h0] at h
  cases h
 rw [e2,e1]
 show (over (C 0).1 f b,495)=_
 rw [hC]
theorem zB_len:zB.length=504:=List.length_replicate
theorem awA_len:awA.length=504:=lbodB_len _ _
theorem aw_zero (nw:NewS 24 20 2 S0) (j:Nat) (hj:j < 3):cont S0 j=(zB,0):=by
 obtain ⟨p1,p2,p3,p4,p5,p6⟩:=nw.P
 unfold cont
 rw [nw.H,p3,nw.zer _ (by omega) (by omega)]
 obtain ⟨z1,z2⟩:=frameB_zero
 show ((frameB (List.replicate 512 0)).by_,(frameB (List.replicate 512 0)).last)=_
 rw [z1,z2]
theorem aw_room (nw:NewS 24 20 2 S0):roomOf S0.L=9600:=by
 rw [(RgH.of nw.rg).roomOf,nw.hd.1,nw.hd.2.1,nw.rg.held,List.length_replicate]
 decide
theorem aw_one (nw:NewS 24 20 2 S0) (wd:WrD (beS S0 1) awR 0 awA S2 R2):∃f d,0 < d∧f + d≤504∧over zB f ((awA.drop f).take d)=awA∧S2.D=S0.D∧S2.L=apL (beS S0 1).L (awU f ((zB.drop f).take d) ((awA.drop f).take d)) ((37 + d:Nat):Int)∧S2.P.H 0≠none∧R2= { awR with last:=495 } ∧S2.P.at_=21:=by
 have sv0:=nw.sv (by decide) (by decide)
 obtain ⟨-,sv1,e1,e2,-⟩:=sv0.begin 1 (by rw [aw_room nw];decide)
 have hH:(beS S0 1).P.H 0=none:=nw.H 0
 have hn:(beS S0 1).P.n < (beS S0 1).P.frames:=by
  obtain ⟨p1,p2,p3,p4,p5,p6⟩:=nw.P
  show S0.P.n < S0.P.frames
  rw [p2,p5]
  decide
 have hst:=sv1.page_still (x:=0) (by decide) (.inr hn)
 have hc:cont (beS S0 1) 0=(zB,0):=aw_zero nw 0 (by decide)
 rcases wd with ⟨-,-,hh⟩ | ⟨S1,f,d,S3,g,hp,hd,hfd,hov,hp2,hg,rfl,rfl⟩
 ·rw [hc] at hh
  exact absurd (congrArg (fun l=>l.head?) hh) (by rw [show awA=97::List.replicate 503 0 from rfl];decide)
 ·rw [hp] at hst
  dsimp only at hst
  obtain ⟨s1,s2,-⟩:=hst
  obtain ⟨q1,q2,q3,q4,-,-,gg,q5,-⟩:=sv1.page (x:=0) (by decide) (by decide)
  rw [hp] at q1 q2 q3 q4 q5
  dsimp only at q1 q2 q3 q4 q5
  rw [hc] at hp2 hov
  dsimp only at hp2 hov
  have hz:zB.length=504:=zB_len
  have hlen:(awU f ((zB.drop f).take d) ((awA.drop f).take d)).length=27 + d + d:=awU_len (cutl hz hfd) (cutl awA_len hfd)
  obtain ⟨-,t2,-⟩:=q2.app (awU f ((zB.drop f).take d) ((awA.drop f).take d)) (37 + d) (by rw [hlen];omega) (by rw [hlen,q4,e2,aw_room nw];omega)
  have hst2:=t2.page_still (x:=0) (by decide) (.inl (by show S1.P.H 0≠none;rw [q5];exact fun e=>by cases e))
  have hp3:pageR ⟨S1.D,apL S1.L (awU f ((zB.drop f).take d) ((awA.drop f).take d)) ((37 + d:Nat):Int),S1.P⟩ ((0:Nat):Int)=(0,S3):=hp2
  rw [hp3] at hst2
  dsimp only at hst2
  obtain ⟨v1,v2,-⟩:=hst2
  refine ⟨f,d,hd,hfd,hov, ?_, ?_, ?_, ?_, ?_⟩
  ·show S3.D=_
   rw [v1,s1]
   rfl
  ·show S3.L=_
   rw [v2,s2]
  ·show upM S3.P.H 0 _ 0≠none
   rw [upM_same]
   exact fun e=>by cases e
  ·rw [q3,e1,nw.end_]
  ·obtain ⟨-,w2,-⟩:=t2.page (x:=0) (by decide) (by decide)
   rw [hp3] at w2
   exact w2.at_
structure AwD (S0 S:St) (f d:Nat) (T:List UInt8):Prop where
 rng:0 < d∧f + d≤504
 ov:over zB f ((awA.drop f).take d)=awA
 fal:Fal S.D S.L T
 len:T.length=547 + d + d
 recs:T.drop 480=recsB (awL f ((zB.drop f).take d) ((awA.drop f).take d))
 hd:S.L.hd=S0.L.hd∧S.L.at_=0
 zer:∀j,21≤j→j < 24→S.D.at j=List.replicate 512 0
 ops:S.D.ops≤200
 dur:S.D.dur.length=24
theorem aw_two (nw:NewS 24 20 2 S0) (wd:WrD (beS S0 1) awR 0 awA S2 R2):∃f d T,AwD S0 (cmS S2 R2) f d T:=by
 have sv0:=nw.sv (by decide) (by decide)
 obtain ⟨-,sv1,e1,e2,-⟩:=sv0.begin 1 (by rw [aw_room nw];decide)
 obtain ⟨f,d,hd,hfd,hov,eD,eL,-,eR,eA⟩:=aw_one nw wd
 have hz:zB.length=504:=zB_len
 have hlen:(awU f ((zB.drop f).take d) ((awA.drop f).take d)).length=27 + d + d:=awU_len (cutl hz hfd) (cutl awA_len hfd)
 obtain ⟨v1,-,-,-,-,v6,-⟩:=wd.sv sv1 (by decide) (by decide) (by rw [e2,aw_room nw];decide) awA_len
 obtain ⟨c1,c2,c3,c4,c5,c6,c7,c8,c9,c10⟩:=v1.commit (by decide) R2 (by rw [e2,aw_room nw] at v6;omega)
 have h0:=RgH.of nw.rg
 have hhd:=nw.hd
 obtain ⟨b1,b2,b3,b4,b5,b6⟩:=h0.app (plainB 1 1 0) ⟨by rw [plain1_len];decide,by rw [plain1_len];decide⟩ 23 (by rw [List.length_replicate,plain1_len,nw.rg.held,hhd.1,hhd.2.1];decide) (by rw [List.length_replicate,plain1_len];decide)
 have hl1:(List.replicate 480 (0:UInt8) ++ frm (plainB 1 1 0)).length=495:=by rw [List.length_append,List.length_replicate,frm_len,plain1_len]
 obtain ⟨u1,u2,u3,u4,u5,u6⟩:=b2.app (awU f ((zB.drop f).take d) ((awA.drop f).take d)) ⟨by rw [hlen];omega,by rw [hlen];omega⟩ (37 + d) (by rw [hl1,hlen,b6,b3,nw.rg.held,hhd.1,hhd.2.1];omega) (by rw [hl1,hlen];omega)
 have eL2:S2.L=apL (apL S0.L (plainB 1 1 0) ((23:Nat):Int)) (awU f ((zB.drop f).take d) ((awA.drop f).take d)) ((37 + d:Nat):Int):=eL
 rw [← eL2,← eD] at u2
 rw [← eL2] at u3 u4 u5 u6
 have hl2:(List.replicate 480 (0:UInt8) ++ frm (plainB 1 1 0) ++ frm (awU f ((zB.drop f).take d) ((awA.drop f).take d))).length=524 + d + d:=by rw [List.length_append,hl1,frm_len,hlen];omega
 have u7:=u2.rel S2.L.held
 have eh:(relL S2.L S2.L.held).held=0:=Nat.sub_self _
 have ehd:(relL S2.L S2.L.held).hd=S0.L.hd:=by show S2.L.hd=_;rw [u3,b3]
 have eR4:plainB 4 R2.number R2.last=plainB 4 1 495:=by rw [eR];rfl
 obtain ⟨t1,t2,t3,t4,t5,t6⟩:=u7.app (plainB 4 1 495) ⟨by rw [plain4_len];decide,by rw [plain4_len];decide⟩ 0 (by rw [hl2,plain4_len,eh,ehd,hhd.1,hhd.2.1];omega) (by rw [hl2,plain4_len];omega)
 have eC:apL (relL S2.L S2.L.held) (plainB 4 1 495) ((0:Nat):Int)=cmL S2 R2:=by unfold cmL;rw [eR4]
 rw [eC] at t2 t3 t4 t5 t6
 obtain ⟨q1,q2,q3,q4,q5,q6,q7,q8⟩:=t2.flush (by have:=v1.fit.ops;omega)
 have rg:=q2.to (by rw [q6,t6,eh])
 have hl3:(List.replicate 480 (0:UInt8) ++ frm (plainB 1 1 0) ++ frm (awU f ((zB.drop f).take d) ((awA.drop f).take d)) ++ frm (plainB 4 1 495)).length=547 + d + d:=by rw [List.length_append,hl2,frm_len,plain4_len];omega
 have hrec:(List.replicate 480 (0:UInt8) ++ frm (plainB 1 1 0) ++ frm (awU f ((zB.drop f).take d) ((awA.drop f).take d)) ++ frm (plainB 4 1 495)).drop 480=recsB (awL f ((zB.drop f).take d) ((awA.drop f).take d)):=by
  rw [List.append_assoc,List.append_assoc]
  have e:(List.replicate 480 (0:UInt8) ++ (frm (plainB 1 1 0) ++ (frm (awU f ((zB.drop f).take d) ((awA.drop f).take d)) ++ frm (plainB 4 1 495)))).drop 480=frm (plainB 1 1 0) ++ (frm (awU f ((zB.drop f).take d) ((awA.drop f).take d)) ++ frm (plainB 4 1 495)):=List.drop_left' List.length_replicate
  rw [e]
  unfold awL
  rw [recsB_cons,recsB_cons,recsB_cons,recsB_nil,List.append_nil]
 have hrc:=awR_rcs (f:=f) (cutl hz hfd) (cutl awA_len hfd) hd hfd
 have ehd3:(cmS S2 R2).L.hd=S0.L.hd:=by rw [c7,u3,b3]
 have hfal:=rg.fal (awL f ((zB.drop f).take d) ((awA.drop f).take d)) (fun p hp=>by
  obtain ⟨j,hj,rfl⟩:=List.getElem_of_mem hp
  have:=(hrc.ok j hj).1
  rw [List.getD_eq_getElem?_getD,List.getElem?_eq_getElem hj] at this
  exact this) (by rw [show (flL S2.D (cmL S2 R2)).hd=S0.L.hd from ehd3,hhd.2.2.1];exact hrec) q3
 refine ⟨f,d,_,⟨⟨hd,hfd⟩,hov,hfal,hl3,hrec,⟨ehd3, ?_⟩,fun j h1 h2=> ?_, ?_,c4.dur⟩⟩
 ·show (flL S2.D (cmL S2 R2)).at_=0
  rw [q5,t5]
  show S2.L.at_=0
  rw [u5,b5]
  exact hhd.2.2.2.2.2
 ·have k1:=c9 (j - 21) (by omega)
  rw [eA,show 21 + (j - 21)=j by omega] at k1
  rw [k1,eD]
  exact nw.zer j (by omega) (by omega)
 ·have:=c4.fit.ops
  omega
end
theorem ready_is {D:Dk} {R:Sr} (h:Awk D) (hf:R.fallen=false):readyE D R=0:=by
 unfold readyE
 rw [if_neg]
 rintro (h1 | h1)
 ·rw [hf] at h1;cases h1
 ·rw [h.1] at h1;cases h1
theorem in_is {D:Dk} {R:Sr} (h:Awk D) (hf:R.fallen=false) (ho:R.op=true):inTxE D R=0:=by
 unfold inTxE
 rw [if_neg,ready_is h hf]
 rintro ⟨-,h1⟩
 rw [ho] at h1
 cases h1
section
variable {w W W':World} {g s n c f k x:Nat} {S S':St} {R R':Sr} {b:List UInt8}
theorem WrD.still (wd:WrD S R x b S' R') (h:Sv S n c f k) (hk:k + c + 4≤400000) (hx:x < n - (1 + c)) (hr:1578≤roomOf S.L) (hb:b.length=504) (hh:S.P.H x≠none∨S.P.n < S.P.frames):S'.D=S.D:=by
 obtain ⟨s1,s2,-⟩:=h.page_still hx hh
 obtain ⟨q1,q2,q3,q4,-,q6,gg,q5,q7,q8⟩:=h.page hk hx
 rcases wd with ⟨-,hp,-⟩ | ⟨S1,f0,d,S3,g2,hp,hd,hfd,hov,hp2,hg,rfl,rfl⟩
 ·rw [hp] at s1
  exact s1
 ·rw [hp] at s1 s2 q2 q4 q5
  dsimp only at s1 s2 q2 q4 q5
  have hol:(cont S x).1.length=504:=by rw [← q7];exact q8
  have hlen:(updB R x f0 (((cont S x).1.drop f0).take d) ((b.drop f0).take d)).length=27 + d + d:=by rw [updB_len,cutl hol hfd,cutl hb hfd]
  obtain ⟨-,t2,-⟩:=q2.app (updB R x f0 (((cont S x).1.drop f0).take d) ((b.drop f0).take d)) (37 + d) (by rw [hlen];omega) (by rw [hlen,q4];omega)
  have hst2:=t2.page_still (x:=x) hx (.inl (by show S1.P.H x≠none;rw [q5];exact fun e=>by cases e))
  rw [hp2] at hst2
  show S3.D=_
  rw [hst2.1]
  exact s1
def Aw1 (w W:World) (g s:Nat):Prop:=∃Z S,Z.X.g=g∧StoAt w W Z s S (Sr0 20)∧NewS 24 20 2 S
def Aw2 (w W:World) (g s:Nat):Prop:=∃Z S,Z.X.g=g∧StoAt w W Z s (beS S 1) awR∧NewS 24 20 2 S
def Aw3 (w W:World) (g s:Nat):Prop:=∃Z S S2 R2,Z.X.g=g∧StoAt w W Z s S2 R2∧NewS 24 20 2 S∧WrD (beS S 1) awR 0 awA S2 R2
def Aw4 (w W:World) (g s:Nat):Prop:=∃Z S S2 R2,Z.X.g=g∧StoAt w W Z s (cmS S2 R2) (noTx R2)∧NewS 24 20 2 S∧WrD (beS S 1) awR 0 awA S2 R2
def Aw5 (w W:World) (g s:Nat):Prop:=∃Z S S2 R2 R5,Z.X.g=g∧StoAt w W Z s (beS (cmS S2 R2) 2) R5∧NewS 24 20 2 S∧WrD (beS S 1) awR 0 awA S2 R2∧R5.op=true∧R5.fallen=false∧R5.count=20∧R5.number=2∧R5.last < 100000
def Aw6 (w W:World) (g s:Nat):Prop:=∃Z S S2 R2 S5 R5,Z.X.g=g∧StoAt w W Z s S5 R5∧NewS 24 20 2 S∧WrD (beS S 1) awR 0 awA S2 R2∧S5.D=(cmS S2 R2).D
def Aw7 (w W:World) (g:Nat):Prop:=∃gd gn A cA S S2 R2,DiskAt w.heap.size W g gd gn A cA (cmS S2 R2).D∧Ext w W∧NewS 24 20 2 S∧WrD (beS S 1) awR 0 awA S2 R2
def Aw8 (w W:World) (s:Nat):Prop:=∃Z S k,StoAt w W Z s S (Sr0 20)∧Sv S 24 20 2 k∧k≤5000∧cont S 0=(awA,495)
theorem aw_begin (h:Aw1 w W g s) (hT:Tab w):Calls Tryz.prog 10 #[.pointer (some ⟨s,0,none⟩)] W (fun e w' =>e= .returned (.tuple #[.int .u64 1, .int .i64 0])∧Aw2 w w' g s):=by
 obtain ⟨Z,S,hg,h1,nw⟩:=h
 have sv:=nw.sv (by decide) (by decide)
 refine (sv_begin h1 sv (by decide) hT (ready_is nw.rg.awk rfl) rfl rfl (by decide) (by rw [aw_room nw];decide) (by rw [aw_room nw];decide)).mono fun e w' hh=> ?_
 obtain ⟨Z',he,k1,k2,k3⟩:=hh
 rw [nw.end_] at k1
 exact ⟨he,Z',S,k3.X.g.trans hg,k1,nw⟩
theorem aw_write (h:Aw2 w W g s) (hT:Tab w) (hx:Ext W W') (gq:Nat) (hq:W.heap.size≤gq) (hb:Blk W' gq awA):Calls Tryz.prog 12 #[.pointer (some ⟨s,0,none⟩), .int .i64 0, .slice (some ⟨gq,0,none⟩) 504 504] W' (fun e w' =>e= .returned (.int .i64 0)∧Aw3 w w' g s):=by
 obtain ⟨Z,S,hg,h1,nw⟩:=h
 have sv:=nw.sv (by decide) (by decide)
 obtain ⟨-,sv1,e1,e2,-⟩:=sv.begin 1 (by rw [aw_room nw];decide)
 have h2:=h1.ext_ hx
 have kk:=sv_write h2 sv1 (by decide) (by decide) hT (in_is sv1.good.awk rfl rfl) rfl 0 (by decide) (by rw [e2,aw_room nw];decide) ⟨by decide,by decide⟩ (some ⟨gq,0,none⟩) 504 awA hb.rd awA_len (by decide) (fun a ha=>by
  injection ha with ha
  subst ha
  refine ⟨hb.lt,fun hh=> ?_,fun e=> ?_⟩
  ·have:=h1.pool.has_lt hh
   have:gq < W.heap.size:=this
   omega
  ·have:=h1.blk.lt
   have e:gq=s:=e
   omega)
 refine kk.mono fun e w' hh=> ?_
 obtain ⟨S2,R2,wd,Z',he,k1,k2,k3⟩:=hh
 exact ⟨he,Z',S,S2,R2,k3.X.g.trans hg,k1,nw,wd⟩
theorem aw_sv (nw:NewS 24 20 2 S) {S2:St} {R2:Sr} (wd:WrD (beS S 1) awR 0 awA S2 R2):Sv S2 24 20 2 92∧7984≤roomOf S2.L∧endOf S2.L≤1532∧S2.L.hd=S.L.hd∧R2.count=20∧R2.begun=1∧R2.op=true∧R2.fallen=false∧R2.number=1∧R2.last=495∧S2.P.H 0≠none:=by
 have sv:=nw.sv (by decide) (by decide)
 obtain ⟨-,sv1,e1,e2,e3,-⟩:=sv.begin 1 (by rw [aw_room nw];decide)
 obtain ⟨v1,v2,v3,v4,v5,v6,v7,v8,v9,v10,v11,v12,v13⟩:=wd.sv sv1 (by decide) (by decide) (by rw [e2,aw_room nw];decide) awA_len
 obtain ⟨f0,d,-,-,-,-,-,hH,hR,-⟩:=aw_one nw wd
 rw [e1,nw.end_] at v5
 rw [e2,aw_room nw] at v6
 exact ⟨v1,by omega,by omega,v13.trans e3,v7,v8,v9,v11,v10,by rw [hR],hH⟩
theorem aw_commit (h:Aw3 w W g s) (hT:Tab w):Calls Tryz.prog 13 #[.pointer (some ⟨s,0,none⟩)] W (fun e w' =>e= .returned (.int .i64 0)∧Aw4 w w' g s):=by
 obtain ⟨Z,S,S2,R2,hg,h1,nw,wd⟩:=h
 obtain ⟨v1,v2,v3,v4,v5,v6,v7,v8,v9,v10,v11⟩:=aw_sv nw wd
 refine (sv_commit h1 v1 (by decide) hT (in_is v1.good.awk v8 v7) ⟨by omega,by omega,by omega⟩ (by omega)).mono fun e w' hh=> ?_
 obtain ⟨Z',he,k1,k2,k3⟩:=hh
 exact ⟨he,Z',S,S2,R2,k3.X.g.trans hg,k1,nw,wd⟩
theorem aw_cm (nw:NewS 24 20 2 S) {S2:St} {R2:Sr} (wd:WrD (beS S 1) awR 0 awA S2 R2):Sv (cmS S2 R2) 24 20 2 116∧8525≤roomOf (cmS S2 R2).L∧endOf (cmS S2 R2).L≤1555∧(cmS S2 R2).P.H 0≠none:=by
 obtain ⟨v1,v2,v3,v4,v5,v6,v7,v8,v9,v10,v11⟩:=aw_sv nw wd
 obtain ⟨c1,c2,c3,c4,c5,c6,c7,c8,c9,c10⟩:=v1.commit (by decide) R2 (by omega)
 refine ⟨c4, ?_,by omega,v11⟩
 unfold roomOf
 rw [c7,c8,c5,v4,nw.hd.1,nw.hd.2.1]
 omega
theorem aw_begin2 (h:Aw4 w W g s) (hT:Tab w):Calls Tryz.prog 10 #[.pointer (some ⟨s,0,none⟩)] W (fun e w' =>e= .returned (.tuple #[.int .u64 2, .int .i64 0])∧Aw5 w w' g s):=by
 obtain ⟨Z,S,S2,R2,hg,h1,nw,wd⟩:=h
 obtain ⟨v1,v2,v3,v4,v5,v6,v7,v8,v9,v10,v11⟩:=aw_sv nw wd
 obtain ⟨c1,c2,c3,c4⟩:=aw_cm nw wd
 have hb:(noTx R2).begun=1:=v6
 have kk:=sv_begin h1 c1 (by decide) hT (ready_is c1.good.awk v8) rfl v5 (by rw [hb];decide) (by omega) (by omega)
 rw [hb] at kk
 refine kk.mono fun e w' hh=> ?_
 obtain ⟨Z',he,k1,k2,k3⟩:=hh
 exact ⟨he,Z',S,S2,R2,_,k3.X.g.trans hg,k1,nw,wd,rfl,v8,v5,by show R2.begun + 1=2;rw [v6],by show endOf (cmS S2 R2).L < _;omega⟩
theorem aw_write2 (h:Aw5 w W g s) (hT:Tab w) (hx:Ext W W') (gq:Nat) (hq:W.heap.size≤gq) (hb:Blk W' gq awB):Calls Tryz.prog 12 #[.pointer (some ⟨s,0,none⟩), .int .i64 0, .slice (some ⟨gq,0,none⟩) 504 504] W' (fun e w' =>e= .returned (.int .i64 0)∧Aw6 w w' g s):=by
 obtain ⟨Z,S,S2,R2,R5,hg,h1,nw,wd,r1,r2,r3,r4,r5⟩:=h
 obtain ⟨c1,c2,c3,c4⟩:=aw_cm nw wd
 obtain ⟨-,sv1,e1,e2,-⟩:=c1.begin 2 (by omega)
 have h2:=h1.ext_ hx
 have hl:awB.length=504:=lbodB_len _ _
 have kk:=sv_write h2 sv1 (by decide) (by decide) hT (in_is sv1.good.awk r2 r1) r3 0 (by decide) (by omega) ⟨by omega,by omega⟩ (some ⟨gq,0,none⟩) 504 awB hb.rd hl (by decide) (fun a ha=>by
  injection ha with ha
  subst ha
  refine ⟨hb.lt,fun hh=> ?_,fun e=> ?_⟩
  ·have:=h1.pool.has_lt hh
   have:gq < W.heap.size:=this
   omega
  ·have:=h1.blk.lt
   have e:gq=s:=e
   omega)
 refine kk.mono fun e w' hh=> ?_
 obtain ⟨S5,R6,wd5,Z',he,k1,k2,k3⟩:=hh
 exact ⟨he,Z',S,S2,R2,S5,R6,k3.X.g.trans hg,k1,nw,wd,(wd5.still sv1 (by decide) (by decide) (by omega) hl (.inl c4)).trans rfl⟩
theorem aw_restart (h:Aw6 w W g s):Calls Tryz.prog 22 #[.pointer (some ⟨g,0,none⟩), .slice none 0 0] W (fun e w' =>e= .returned (.int .i64 0)∧Aw7 w w' g):=by
 obtain ⟨Z,S,S2,R2,S5,R5,hg,h1,nw,wd,hD⟩:=h
 obtain ⟨f0,d,T,ad⟩:=aw_two nw wd
 have hdk:=h1.pool.log.disk
 rw [hD] at hdk
 have hpen:=ad.fal.pen
 have kk:=restart_any (ck:=0) (P:=none) hdk ad.fal.bd.ok ad.fal.bd.pen h1.pool.log.ext.size [] (fun W _ hn=>absurd rfl hn)
 rw [fallen_still ad.fal.awk hpen,hg] at kk
 refine kk.mono fun e w' hh=> ?_
 obtain ⟨A2,c2,he,k1,k2,k3⟩:=hh
 rw [hg] at hdk
 exact ⟨he,_,_,A2,c2,S,S2,R2,k1,Dfr.grown h1.pool.log.ext hdk k2,nw,wd⟩
theorem aw_open (h:Aw7 w W g) (hT:Tab w) (hsort:SortC):Calls Tryz.prog 8 #[.pointer (some ⟨g,0,none⟩), .int .i64 20, .int .i64 2] W (fun e w' =>∃s,e= .returned (.tuple #[.pointer (some ⟨s,0,none⟩), .int .i64 0])∧Aw8 w w' s):=by
 obtain ⟨gd,gn,A,cA,S,S2,R2,hdk,hx,nw,wd⟩:=h
 obtain ⟨f0,d,T,ad⟩:=aw_two nw wd
 have hst:(cmS S2 R2).L.hd.st=480:=by rw [ad.hd.1];exact nw.hd.2.1
 have hz:zB.length=504:=zB_len
 have hrc:=awR_rcs (f:=f0) (cutl hz ad.rng.2) (cutl awA_len ad.rng.2) ad.rng.1 ad.rng.2
 have hr:=ad.rng
 have kk:=sv_open (n:=24) (c:=20) (f:=2) (k:=200) (x0:=0) (j0:=1) hx hdk ad.fal ad.hd.2 (by rw [ad.hd.1];exact nw.hd.1) ad.dur (by decide) (by decide) (by decide) (by decide) ⟨by decide,by decide⟩ ad.ops (by rw [ad.len];omega) (by rw [ad.hd.1];have:=nw.ep;omega) (fun j h1 h2=> .inr (by rw [ad.zer j h1 h2];exact frameB_zero.2)) hT hsort _ _ hrc (by rw [hst];exact ad.recs) (by rw [ad.hd.1,nw.hd.2.2.2.1];exact Nat.zero_le _) (by show 3 < 2000;decide) (by rw [hst];exact congrArg Sr.op awR_RL) (by rw [hst];exact awR_from ad.len) (fun j hj hc=>awR_one j hj hc) (by decide) (by show 200 + 3 + 3 * 48 + 64 * 23 + 20≤280000;decide)
 rw [hst] at kk
 refine kk.mono fun e w' hh=> ?_
 obtain ⟨s,he,Z,S',od⟩:=hh
 refine ⟨s,he,Z,S',_,od.sto,od.sv,by show 200 + 3 + 3 * 48 + 64 * 23 + 3≤5000;decide, ?_⟩
 have h0:=od.cont 0 (by decide)
 obtain ⟨o1,o2,o3,o4,o5,o6,o7,-⟩:=ad.fal.sv (n:=24) (c:=20) (f:=2) (k:=200) ad.hd.2 (by rw [ad.hd.1];exact nw.hd.1) ad.dur (by decide) (by decide) (by decide) (by decide) ⟨by decide,by decide⟩ ad.ops (by decide) (by rw [ad.len];omega) (by rw [ad.hd.1];have:=nw.ep;omega) (fun j h1 h2=> .inr (by rw [ad.zer j h1 h2];exact frameB_zero.2))
 have hC:=o7 0 (by decide)
 rw [ad.zer _ (by decide) (by decide),frameB_zero.1,frameB_zero.2] at hC
 have k2:=awR_CR (f:=f0) (o:=(zB.drop f0).take d) (b:=(awA.drop f0).take d) _ hC
 rw [ad.ov] at k2
 exact h0.trans k2
theorem aw_read (h:Aw8 w W s) (hT:Tab w):Calls Tryz.prog 11 #[.pointer (some ⟨s,0,none⟩), .int .i64 0] W (fun e w' =>∃a off cc,e= .returned (.tuple #[.slice (some ⟨a,off,none⟩) 504 cc, .int .i64 0])∧w'.cell? ⟨a,off,none⟩=some (.int .u8 97)∧∃Z S,StoAt w w' Z s S (Sr0 20)∧S.D.dur.length=24):=by
 obtain ⟨Z,S,k,h1,sv,hk,hc⟩:=h
 refine (sv_read h1 sv (by omega) hT (ready_is sv.good.awk rfl) 0 (by decide)).mono fun e w' hh=> ?_
 obtain ⟨A,cc,hr,Z',he,k1,k2,k3⟩:=hh
 rw [hc] at hr
 obtain ⟨a,off,rfl,hcell⟩:=hr (by rw [show awA=97::List.replicate 503 0 from rfl];exact fun e=>by cases e)
 have h0:=hcell 0 97 rfl
 obtain ⟨-,q2,-⟩:=sv.page (x:=0) (by omega) (by decide)
 exact ⟨a,off,cc,he,h0,Z',_,k1,q2.dur⟩
end
section
variable {w:World}
theorem sawake_any (w:World) (hT:Tab w) (hsort:SortC):Calls Tryz.prog 5 #[] w (fun e w' =>e= .returned (.bool true)∧Ext w w'):=by
 have KF:Hid (Calls Tryz.prog 9 #[.int .i64 3, .int .i64 20, .int .i64 2] w (fun e w' =>∃g s,e= .returned (.tuple #[.pointer (some ⟨g,0,none⟩), .pointer (some ⟨s,0,none⟩)])∧Aw1 w w' g s)):=hide ((sfresh_any (c:=20) (f:=2) 3 (by decide) (by decide) (by decide) (by decide) ⟨by decide,by decide⟩ hT hsort).mono fun e w' hh=>by
  obtain ⟨Z,s,S,he,h1,h2⟩:=hh
  exact ⟨Z.X.g,s,he,Z,S,rfl,h1,h2⟩)
 have HBA:Hid (∀W:World,(Instr.buildSlice 22 1 #[(0, .int .u8 97)]).run Tryz.prog W= .ok (.slice (some ⟨W.heap.size,0,none⟩) 1 1) (W.alloc (.cells #[.int .u8 97] 5))):=hide (fun W=>by kernel_rfl)
 have HBB:Hid (∀W:World,(Instr.buildSlice 22 1 #[(0, .int .u8 98)]).run Tryz.prog W= .ok (.slice (some ⟨W.heap.size,0,none⟩) 1 1) (W.alloc (.cells #[.int .u8 98] 5))):=hide (fun W=>by kernel_rfl)
 have KB1:=hide (fun (W:World) g s (h:Aw1 w W g s)=>aw_begin h hT)
 have KBA:Hid (∀(W:World) (fr:Nat×Nat),Calls Tryz.prog 21 #[.slice (some ⟨W.heap.size,0,none⟩) 1 1, .int .u16 0] (W.alloc (.cells #[.int .u8 97] 5 fr)) (fun e w' =>∃gq,e= .returned (.slice (some ⟨gq,0,none⟩) 504 504)∧W.heap.size≤gq∧Blk w' gq awA∧Ext W w')):=hide (fun W fr=>(sbody_any _ [97] 1 1 (frc_bytes 97 fr W) rfl (by decide) 0 (by decide)).mono fun e w' hh=>by
  obtain ⟨gq,he,h1,h2,h3⟩:=hh
  exact ⟨gq,he,Nat.le_trans (by simp) h1,h2,(Ext.alloc _ _).trans h3⟩)
 have KBB:Hid (∀(W:World) (fr:Nat×Nat),Calls Tryz.prog 21 #[.slice (some ⟨W.heap.size,0,none⟩) 1 1, .int .u16 0] (W.alloc (.cells #[.int .u8 98] 5 fr)) (fun e w' =>∃gq,e= .returned (.slice (some ⟨gq,0,none⟩) 504 504)∧W.heap.size≤gq∧Blk w' gq awB∧Ext W w')):=hide (fun W fr=>(sbody_any _ [98] 1 1 (frc_bytes 98 fr W) rfl (by decide) 0 (by decide)).mono fun e w' hh=>by
  obtain ⟨gq,he,h1,h2,h3⟩:=hh
  exact ⟨gq,he,Nat.le_trans (by simp) h1,h2,(Ext.alloc _ _).trans h3⟩)
 have KW1:=hide (fun (W W':World) g s (h:Aw2 w W g s) (hx:Ext W W') gq (hq:W.heap.size≤gq) (hb:Blk W' gq awA)=>aw_write h hT hx gq hq hb)
 have KC:=hide (fun (W:World) g s (h:Aw3 w W g s)=>aw_commit h hT)
 have KB2:=hide (fun (W:World) g s (h:Aw4 w W g s)=>aw_begin2 h hT)
 have KW2:=hide (fun (W W':World) g s (h:Aw5 w W g s) (hx:Ext W W') gq (hq:W.heap.size≤gq) (hb:Blk W' gq awB)=>aw_write2 h hT hx gq hq hb)
 have KR:=hide (fun (W:World) g s (h:Aw6 w W g s)=>aw_restart h)
 have KO:=hide (fun (W:World) g (h:Aw7 w W g)=>aw_open h hT hsort)
 have KRD:=hide (fun (W:World) s (h:Aw8 w W s)=>aw_read h hT)
 have KIN:Hid (∀(W:World) s,(∃Z S,StoAt w W Z s S (Sr0 20)∧S.D.dur.length=24)→Calls Tryz.prog 19 #[.pointer (some ⟨s,0,none⟩)] W (Same W (.bool false))):=hide (fun W s h=>by
  obtain ⟨Z,S,h1,-⟩:=h
  exact sintx_any h1)
 have KPG:Hid (∀(W:World) s,(∃Z S,StoAt w W Z s S (Sr0 20)∧S.D.dur.length=24)→Calls Tryz.prog 17 #[.pointer (some ⟨s,0,none⟩)] W (fun e w' =>e= .returned (.int .i64 3)∧Ext w w')):=hide (fun W s h=>by
  obtain ⟨Z,S,h1,h2⟩:=h
  refine (spages_any h1 (by decide) (by rw [h2];decide)).mono fun e w' hh=> ?_
  obtain ⟨he,k,rfl⟩:=hh
  rw [h2] at he
  exact ⟨he,h1.pool.log.ext.drewN k⟩)
 have hcv:=fun (w:World) (C:Array Value) (n c:Nat)=>Lib.run_convert_bytes_const (P:=Tryz.prog) w 22 5 C n c Tryz.underlying22 Tryz.underlying5
 clear hT hsort
 go_enter Tryz.func5,Tryz.ntmps5
 go_upto_region 5 with (first
  | (go_at_call 9;(with_reducible refine KF.out.mono ?_);rintro e w1 ⟨g,s,rfl,h1⟩;have H1:=hide h1;clear h1)
  | (go_at_call 10;(with_reducible refine (KB1.out w1 g s H1.out).mono ?_);rintro e w2 ⟨rfl,h2⟩;have H2:=hide h2;clear h2))
 go_upto_region 8 with (first
  | ((with_reducible show wpList _ _ _ (⟨some 22,_,_,_,_,_⟩::_) _ _);refine wpList_gives (gives_buildSlice rfl [(0, .int .u8 97)] rfl (HBA.out w2) ⟨rfl,rfl⟩) rfl ?_)
  | (go_at_call 21;(with_reducible refine (KBA.out w2 _).mono ?_);rintro e w3 ⟨gq,rfl,hq3,hb3,hx3⟩;have HQ3:=hide hq3;have HB3:=hide hb3;have HX3:=hide hx3;clear hq3 hb3 hx3)
  | (go_at_call 12;(with_reducible refine (KW1.out w2 w3 g s H2.out HX3.out gq HQ3.out HB3.out).mono ?_);rintro e w4 ⟨rfl,h4⟩;have H4:=hide h4;clear h4)
  | (go_at_call 13;(with_reducible refine (KC.out w4 g s H4.out).mono ?_);rintro e w5 ⟨rfl,h5⟩;have H5:=hide h5;clear h5)
  | (go_at_call 10;(with_reducible refine (KB2.out w5 g s H5.out).mono ?_);rintro e w6 ⟨rfl,h6⟩;have H6:=hide h6;clear h6))
 go_upto_region 14 with (first
  | ((with_reducible show wpList _ _ _ (⟨some 42,_,_,_,_,_⟩::_) _ _);refine wpList_gives (gives_buildSlice rfl [(0, .int .u8 98)] rfl (HBB.out w6) ⟨rfl,rfl⟩) rfl ?_)
  | (go_at_call 21;(with_reducible refine (KBB.out w6 _).mono ?_);rintro e w7 ⟨gq7,rfl,hq7,hb7,hx7⟩;have HQ7:=hide hq7;have HB7:=hide hb7;have HX7:=hide hx7;clear hq7 hb7 hx7)
  | (go_at_call 12;(with_reducible refine (KW2.out w6 w7 g s H6.out HX7.out gq7 HQ7.out HB7.out).mono ?_);rintro e w8 ⟨rfl,h8⟩;have H8:=hide h8;clear h8)
  | (go_at_call 22;(with_reducible refine (KR.out w8 g s H8.out).mono ?_);rintro e w9 ⟨rfl,h9⟩;have H9:=hide h9;clear h9)
  | (go_at_call 8;(with_reducible refine (KO.out w9 g H9.out).mono ?_);rintro e w10 ⟨s2,rfl,h10⟩;have H10:=hide h10;clear h10))
 go_upto_region 15 with (go_at_call 11;(with_reducible refine (KRD.out w10 s2 H10.out).mono ?_);rintro e w11 ⟨a11,o11,c11,rfl,hc11,h11⟩;have HC11:=hide hc11;have H11:=hide h11;clear hc11 h11)
 clear hcv HBA HBB KB1 KBA KBB KW1 KC KB2 KW2 KR KO KRD KF
 have c11b:=HC11.out
 go_wp2_with (first
  | (go_at_call 19;(with_reducible refine (KIN.out w11 s2 H11.out).mono ?_);rintro e w12 ⟨rfl,hw12⟩;subst hw12)
  | (go_at_call 17;(with_reducible refine (KPG.out w11 s2 H11.out).mono ?_);rintro e w13 ⟨rfl,hx13⟩;have HX13:=hide hx13;clear hx13))
 go_ret
 exact ⟨rfl,HX13.out⟩
end
theorem srd_lt {w:World} {A:Option Addr} {l:List UInt8} {a:Addr} (h:Rd w A l) (ha:A=some a) (hl:l≠ []):a.block < w.heap.size:=by
 obtain ⟨b,o,e,hc⟩:=h hl
 subst e
 injection ha with ha
 subst ha
 obtain ⟨x,l',rfl⟩:=List.exists_cons_of_ne_nil hl
 exact World.block_lt_of_cell? w _ (hc 0 x rfl)
section
variable {w w' W W':World} {g s n c f k x:Nat} {S S':St} {R R':Sr} {b:List UInt8} {r:Int}
def Tx (w W:World) (s:Nat) (r:Int):Prop:=∃Z S R k,StoAt w W Z s S R∧Sv S 19 16 1 k∧k≤300 + 48 * (8000 - r).toNat∧r≤roomOf S.L∧R.op=true∧R.fallen=false∧R.count=16∧R.number < 1000000∧R.last < 10000000000000
theorem Tx.ext (h:Tx w W s r):Ext w W:=by obtain ⟨Z,S,R,k,h1,h2⟩:=h;exact h1.pool.log.ext
theorem tx_begin (h:∃Z S,StoAt w W Z s S (Sr0 16)∧NewS 19 16 1 S) (hT:Tab w):Calls Tryz.prog 10 #[.pointer (some ⟨s,0,none⟩)] W (fun e w' =>e= .returned (.tuple #[.int .u64 1, .int .i64 0])∧Tx w w' s 7000):=by
 obtain ⟨Z,S,h1,nw⟩:=h
 have sv:=nw.sv (by decide) (by decide)
 have hro:roomOf S.L=7680:=by
  rw [(RgH.of nw.rg).roomOf,nw.hd.1,nw.hd.2.1,nw.rg.held,List.length_replicate]
  decide
 obtain ⟨-,sv1,e1,e2,-⟩:=sv.begin 1 (by rw [hro];decide)
 refine (sv_begin h1 sv (by decide) hT (ready_is nw.rg.awk rfl) rfl rfl (by decide) (by rw [hro];decide) (by rw [hro];decide)).mono fun e w' hh=> ?_
 obtain ⟨Z',he,k1,k2,k3⟩:=hh
 exact ⟨he,Z',_,_,_,k1,sv1,by decide,by show 7000≤roomOf (beS S 1).L;rw [e2,hro];decide,rfl,rfl,rfl,by show (Sr0 16).begun + 1 < _;decide,by show endOf S.L < _;rw [nw.end_];decide⟩
theorem tx_read (h:Tx w W s r) (hr0:100≤r) (hr7:r≤7000) (hT:Tab w) (i:Int) (er:Int) (he:er=if i < 0∨1 < i then 1 else 0):Calls Tryz.prog 11 #[.pointer (some ⟨s,0,none⟩), .int .i64 i] W (fun e w' =>∃v,e= .returned (.tuple #[v, .int .i64 er])∧Tx w w' s (r - 1)):=by
 obtain ⟨Z,S,R,k,h1,sv,hk,hr,r1,r2,r3,r4,r5⟩:=h
 subst he
 have hrd:=ready_is (R:=R) sv.good.awk r2
 by_cases hi:i < 0∨1 < i
 ·rw [if_pos hi]
  have hp:pageR S i=(1,S):=by
   unfold pageR
   rw [if_pos (by rw [sv.pages];omega)]
  refine (sRead_not h1 sv.fit (by omega) hT hrd i 1 hp (by decide) (by decide)).mono fun e w' hh=> ?_
  obtain ⟨Z',he,k1,k2,k3⟩:=hh
  exact ⟨_,he,Z',S,R,k,k1,sv,by omega,by omega,r1,r2,r3,r4,r5⟩
 ·rw [if_neg hi]
  obtain ⟨j,rfl⟩:∃j:Nat,i=(j:Int):=⟨i.toNat,by omega⟩
  have hj:j < 19 - (1 + 16):=by omega
  obtain ⟨a1,a2,a3,a4,-⟩:=sv.page (x:=j) (by omega) hj
  refine (sv_read h1 sv (by omega) hT hrd j hj).mono fun e w' hh=> ?_
  obtain ⟨A,cc,-,Z',he,k1,k2,k3⟩:=hh
  exact ⟨_,he,Z',_,R,_,k1,a2,by omega,by rw [a4];omega,r1,r2,r3,r4,r5⟩
theorem tx_write (h:Tx w W s r) (hr0:1600≤r) (hr7:r≤7000) (hT:Tab w) (i:Int) (B:Option Addr) (m cb:Nat) (bb:List UInt8) (hx:Ext W W') (hB:Rd W' B bb) (hbl:bb.length=m) (hcb:m≤cb) (hBk:m=504→∀a,B=some a→a.block < W'.heap.size∧(a.block < w.heap.size∨W.heap.size≤a.block)) (er:Int) (he:er=if i < 0∨1 < i then 1 else if m≠504 then 3 else 0):
  Calls Tryz.prog 12 #[.pointer (some ⟨s,0,none⟩), .int .i64 i, .slice B m cb] W' (fun e w' =>e= .returned (.int .i64 er)∧Tx w w' s (r - 1578)):=by
 obtain ⟨Z,S,R,k,h1,sv,hk,hr,r1,r2,r3,r4,r5⟩:=h
 subst he
 have hin:=in_is (R:=R) sv.good.awk r2 r1
 have h2:=h1.ext_ hx
 have hdl:=sv.dur
 by_cases hi:i < 0∨1 < i
 ·rw [if_pos hi]
  refine (sWrite_arg h2 hin (by rw [r3];decide) (by rw [hdl];decide) i (by rw [hdl,r3];omega) B m cb).mono fun e w' hh=> ?_
  obtain ⟨he,k1,k2⟩:=hh
  exact ⟨he,Z,S,R,k,k1,sv,by omega,by omega,r1,r2,r3,r4,r5⟩
 ·rw [if_neg hi]
  obtain ⟨j,rfl⟩:∃j:Nat,i=(j:Int):=⟨i.toNat,by omega⟩
  have hj:j < 19 - (1 + 16):=by omega
  by_cases hm:m≠504
  ·rw [if_pos hm]
   refine (sWrite_form h2 hin (by rw [r3];decide) (by rw [hdl];decide) j (by rw [hdl,r3];omega) B m cb hm).mono fun e w' hh=> ?_
   obtain ⟨he,k1,k2⟩:=hh
   exact ⟨he,Z,S,R,k,k1,sv,by omega,by omega,r1,r2,r3,r4,r5⟩
  ·rw [if_neg hm]
   have hm:m=504:=by omega
   subst hm
   have kk:=sv_write h2 sv (by omega) (by decide) hT hin r3 j hj (by omega) ⟨by omega,by omega⟩ B cb bb hB hbl hcb (fun a ha=>by
    obtain ⟨b1,b2⟩:=hBk rfl a ha
    refine ⟨b1,fun hh=> ?_,fun e=> ?_⟩
    ·rcases b2 with b2 | b2
     ·have:=h1.pool.has_ge hh
      omega
     ·have:=h1.pool.has_lt hh
      omega
    ·rcases b2 with b2 | b2
     ·have:=h1.base
      omega
     ·have:=h1.blk.lt
      omega)
   refine kk.mono fun e w' hh=> ?_
   obtain ⟨S2,R2,wd,Z',he,k1,k2,k3⟩:=hh
   obtain ⟨v1,v2,v3,v4,v5,v6,v7,v8,v9,v10,v11,v12,v13⟩:=wd.sv sv (by omega) hj (by omega) hbl
   have hbig:=sv.bigd (by omega)
   exact ⟨he,Z',S2,R2,_,k1,v1,by omega,by omega,v9.trans r1,v11.trans r2,v7.trans r3,by rw [v10];exact r4,by rcases v12 with e | e <;> rw [e] <;> omega⟩
def Fo (w W:World) (g N:Nat) (c:Int):Prop:=Ext w W∧∃gd gn A cA,(stFitsE (D0 N) c≠0→DiskAt w.heap.size W g gd gn A cA (D0 N))∧(stFitsE (D0 N) c=0→∃c':Nat,c=(c':Int)∧DiskAt w.heap.size W g gd gn A cA (dk1k N 0 c' (2 + (N - (1 + c')) + 1 + 2)))
theorem er_format (hx:Ext w W) {gd gn:Nat} (h:DiskAt w.heap.size W g gd gn none 0 (D0 n)) (hT:Tab w) (hn:1≤n∧n≤120) (c er:Int) (he:er=if c < 16∨(n:Int) - 2 < c then 1 else 0):
  Calls Tryz.prog 7 #[.pointer (some ⟨g,0,none⟩), .int .i64 c] W (fun e w' =>e= .returned (.int .i64 er)∧Fo w w' g n c):=by
 have hl:(D0 n).dur.length=n:=D0_len n
 have hef:stFitsE (D0 n) c=er:=by rw [he];unfold stFitsE;rw [hl]
 by_cases h0:er=0
 ·have hcc:16≤c∧c≤(n:Int) - 2:=by
   rw [h0] at he
   split at he
   ·cases he
   ·omega
  obtain ⟨c',rfl⟩:∃c':Nat,c=(c':Int):=⟨c.toNat,by omega⟩
  obtain ⟨a1,a2,a3,a4⟩:=sformat_new (n:=n) (c:=c') (by omega) (by omega)
  have k:=sformat_ok hx h (D0_bd (by omega) (by omega)) (by show (0:Nat) < _;decide) (by show (0:Nat) < _;decide) hT c' (by rw [hef,h0]) (by rw [hl];omega) a1 (by rw [hl];exact a2)
  rw [a3,a4] at k
  refine k.mono fun e w' hh=> ?_
  obtain ⟨A2,c2,he2,k1,k2,k3⟩:=hh
  exact ⟨by rw [he2,h0],Dfr.grown hx h k2,gd,gn,A2,c2,fun hne=>absurd (hef.trans h0) hne,fun _=>⟨c',rfl,k1⟩⟩
 ·refine (sformat_bad h (by rw [hl];omega) c (by rw [hef];exact h0)).mono fun e w' hh=> ?_
  obtain ⟨he2,hw⟩:=hh
  subst hw
  rw [hef] at he2
  exact ⟨he2,hx,gd,gn,none,0,fun _=>h,fun h1=>absurd (hef.symm.trans h1) h0⟩
theorem er_open {c':Int} (h:Fo w W g n c') (hT:Tab w) (hsort:SortC) (hn:1≤n∧n≤120) (fr er:Int) (he:er=if c' < 16∨(n:Int) - 2 < c'∨fr < 1∨64 < fr then 1 else 0):
  Calls Tryz.prog 8 #[.pointer (some ⟨g,0,none⟩), .int .i64 c', .int .i64 fr] W (fun e w' =>∃v,e= .returned (.tuple #[v, .int .i64 er])∧Ext w w'):=by
 obtain ⟨hx,gd,gn,A,cA,h1,h2⟩:=h
 have hl:(D0 n).dur.length=n:=D0_len n
 have hef:stFitsE (D0 n) c' =if c' < 16∨(n:Int) - 2 < c' then 1 else 0:=by unfold stFitsE;rw [hl]
 by_cases h0:c' < 16∨(n:Int) - 2 < c'
 ·rw [if_pos h0] at hef
  have hd:=h1 (by rw [hef];decide)
  rw [if_pos (by omega)] at he
  subst he
  refine (sopen_bad hd (by rw [hl];omega) c' fr (by rw [hef];decide)).mono fun e w' hh=> ?_
  obtain ⟨he2,hw⟩:=hh
  subst hw
  rw [hef] at he2
  exact ⟨_,he2,hx⟩
 ·rw [if_neg h0] at hef
  obtain ⟨c,rfl,hd⟩:=h2 hef
  have hl2:(dk1k n 0 c (2 + (n - (1 + c)) + 1 + 2)).dur.length=n:=dk1k_len
  have hef2:stFitsE (dk1k n 0 c (2 + (n - (1 + c)) + 1 + 2)) (c:Int)=0:=by unfold stFitsE;rw [hl2,if_neg h0]
  by_cases hf:fr < 1∨64 < fr
  ·rw [if_pos (by omega)] at he
   subst he
   refine (sopen_frames hd (by rw [hl2];omega) (c:Int) fr hef2 hf).mono fun e w' hh=> ?_
   obtain ⟨he2,hw⟩:=hh
   subst hw
   exact ⟨_,he2,hx⟩
  ·rw [if_neg (by omega)] at he
   subst he
   obtain ⟨f,rfl⟩:∃f:Nat,fr=(f:Int):=⟨fr.toNat,by omega⟩
   refine (sopen_new (f:=f) hx hd hT hsort (by omega) (by omega) (by omega) (by omega) (by omega) (by omega)).mono fun e w' hh=> ?_
   obtain ⟨s,he2,Z,S,-,h3,-⟩:=hh
   exact ⟨_,he2,h3.pool.log.ext⟩
end
structure ErK (w:World) (N:Nat) (c fr i:Int) (A:Option Addr) (m cb:Nat) (fe oe ge he:Int):Prop where
 aw:Calls Tryz.prog 5 #[] w (fun e w' =>e= .returned (.bool true)∧Ext w w')
 nw:∀W,Calls Tryz.prog 6 #[.int .i64 (N:Int)] W (NPost N W)
 fo:∀W W' g gd gn,Ext w W→Ext W W'→DiskAt W.heap.size W' g gd gn none 0 (D0 N)→Calls Tryz.prog 7 #[.pointer (some ⟨g,0,none⟩), .int .i64 c] W' (fun e w' =>e= .returned (.int .i64 fe)∧Fo W w' g N c)
 op:∀W W' g,Ext w W→Fo W W' g N c→Calls Tryz.prog 8 #[.pointer (some ⟨g,0,none⟩), .int .i64 c, .int .i64 fr] W' (fun e w' =>∃v,e= .returned (.tuple #[v, .int .i64 oe])∧Ext W w')
 fs:∀W,Ext w W→Calls Tryz.prog 9 #[.int .i64 2, .int .i64 16, .int .i64 1] W (fun e w' =>∃g s,e= .returned (.tuple #[.pointer (some ⟨g,0,none⟩), .pointer (some ⟨s,0,none⟩)])∧∃Z S,StoAt W w' Z s S (Sr0 16)∧NewS 19 16 1 S)
 bg:∀W W' s,Ext w W→(∃Z S,StoAt W W' Z s S (Sr0 16)∧NewS 19 16 1 S)→Calls Tryz.prog 10 #[.pointer (some ⟨s,0,none⟩)] W' (fun e w' =>e= .returned (.tuple #[.int .u64 1, .int .i64 0])∧Tx W w' s 7000)
 rd:∀W W' s,Ext w W→Tx W W' s 7000→Calls Tryz.prog 11 #[.pointer (some ⟨s,0,none⟩), .int .i64 i] W' (fun e w' =>∃v,e= .returned (.tuple #[v, .int .i64 ge])∧Tx W w' s (7000 - 1))
 wa:∀W W' s,Ext w W→Tx W W' s (7000 - 1)→Calls Tryz.prog 12 #[.pointer (some ⟨s,0,none⟩), .int .i64 0, .slice A m cb] W' (fun e w' =>e= .returned (.int .i64 he)∧Tx W w' s (7000 - 1 - 1578))
 wb:∀W W' s,Ext w W→Tx W W' s (7000 - 1 - 1578)→Calls Tryz.prog 12 #[.pointer (some ⟨s,0,none⟩), .int .i64 i, .slice (some ⟨W'.heap.size,0,none⟩) 504 504] (mkW 504 W') (fun e w' =>e= .returned (.int .i64 ge)∧Tx W w' s (7000 - 1 - 1578 - 1578))
theorem erk {w:World} (N:Nat) (c fr i:Int) (A:Option Addr) (l:List UInt8) (m cb:Nat) (hT:Tab w) (hsort:SortC) (hrd:Rd w A l) (hln:l.length=m) (hcb:m≤cb) (hn:1≤N∧N≤120) (fe oe ge he:Int) (hfe:fe=if c < 16∨(N:Int) - 2 < c then 1 else 0) (hoe:oe=if c < 16∨(N:Int) - 2 < c∨fr < 1∨64 < fr then 1 else 0) (hge:ge=if i < 0∨1 < i then 1 else 0) (hhe:he=if m≠504 then 3 else 0):ErK w N c fr i A m cb fe oe ge he:=by
 refine ⟨sawake_any w hT hsort,fun W=>new_any N hn.1 (by omega) W,fun W W' g gd gn h0 hx hd=>er_format hx hd (hT.ext h0) hn c fe hfe,fun W W' g h0 h=>er_open h (hT.ext h0) hsort hn fr oe hoe,fun W hW=>(sfresh_any (c:=16) (f:=1) 2 (by decide) (by decide) (by decide) (by decide) ⟨by decide,by decide⟩ (hT.ext hW) hsort).mono fun e w' hh=> ?_,fun W W' s h0 h=>tx_begin h (hT.ext h0),fun W W' s h0 h=>tx_read h (by decide) (by decide) (hT.ext h0) i ge hge,fun W W' s h0 h=>tx_write h (by decide) (by decide) (hT.ext h0) 0 A m cb l (Ext.refl _) (hrd.ext (h0.trans h.ext)) hln hcb (fun h5 a ha=> ?_) he (by rw [if_neg (by decide)];exact hhe),fun W W' s h0 h=>tx_write h (by decide) (by decide) (hT.ext h0) i _ 504 504 (List.replicate 504 0) (mkW_ext 504 W') (mkW_rd 504 W') List.length_replicate (Nat.le_refl _) (fun _ a ha=> ?_) ge (by rw [if_neg (show ¬(504≠504) from fun hh=>hh rfl)];exact hge)⟩
 ·obtain ⟨Z,s,S,he,h1,h2⟩:=hh
  exact ⟨Z.X.g,s,he,Z,S,h1,h2⟩
 ·have hlt:a.block < w.heap.size:=srd_lt hrd ha (fun e=>by rw [e] at hln;rw [h5] at hln;cases hln)
  exact ⟨Nat.lt_of_lt_of_le hlt (h0.trans h.ext).size, .inl (Nat.lt_of_lt_of_le hlt h0.size)⟩
 ·injection ha with ha
  subst ha
  exact ⟨(Blk.made W' 504).lt, .inr (Nat.le_refl _)⟩
end Go.Proofs.YthmdmgnhfhpcaaaGreatDoor
