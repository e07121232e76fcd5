/-
  What the card wants, part 3: Cln, LgC, LgFn, LgQ, LgB, LgO2, LgA, LgAd, LgAp, LgSp, LgFl, PlM, PlP.
-/
import Derived.Laws.Cover3
import Derived.BigQuiet
import Derived.Maps.AppendAt
import Derived.Maps.OwnSet
import Derived.Maps.RangeWalk
import Derived.Maps.OwnOps
import Derived.Test.YthmdmgnhfhpcaaaGreatDoorPkCardSvE0
import Derived.Test.YthmdmgnhfhpcaaaGreatDoorPkCardSvE2
set_option linter.unusedVariables false
set_option linter.unusedSimpArgs false
set_option maxRecDepth 20000
set_option maxHeartbeats 12800000
namespace Go.Proofs.YthmdmgnhfhpcaaaGreatDoor
open Go.RowKit
theorem run_eql_nil {P:Program} (w:World) (t e:TypeId) (a:Option Addr) (l c:Nat) (h:P.underlying t=some (.slice e)):(binOp .eql t (.slice a l c) (.slice none 0 0)).run P w= .ok (.bool a.isNone) w:=by
 simp only [binOp]
 simp [run_equal_slice_nil w t e a l c h]
theorem Own.empty (w:World):Own (w.alloc (.cells #[] 5)) w.heap.size (.slice (some ⟨w.heap.size,0,none⟩) 0 0) []:=
 ⟨rfl, .inr ⟨w.heap.size,0, #[],rfl,Nat.le_refl _,heap_alloc_new w _,Nat.le_refl _,by unfold maxLen;decide,rfl,rfl⟩⟩
theorem Own.farB {w:World} {B:Nat} {v:Value} {l:List UInt8} (h:Own w B v l) {g:Nat} (hg:g < B) (i:Nat) (u:Value):Own (w.setCell ⟨g,i,none⟩ u) B v l:=by
 refine ⟨h.1, ?_⟩
 rcases h.2 with hn | ⟨g',cap,cur,rfl,hb,hg',rest⟩
 ·exact .inl hn
 ·exact .inr ⟨g',cap,cur,rfl,hb,(Below.heap_setCell w ⟨g,i,none⟩ u g' (by show g'≠g;omega)).trans hg',rest⟩
theorem clone_any (A:Option Addr) (l:List UInt8) (n c:Nat) (w:World) (hr:Rd w A l) (hn:l.length=n) (hl:n≤140737488351232):Calls Tryz.prog 87 #[.slice A n c] w (Ret w (fun w' v=>Own w' w.heap.size v l)):=by
 rcases A with _ | a
 ·have hl:l= []:=by
   cases l with
   | nil=>rfl
   | cons x xs=>obtain ⟨_,_,hA,_⟩:=hr (by simp);cases hA
  subst hl
  clear hr
  have hq:=fun (W:World)=>run_eql_nil (P:=Tryz.prog) W 22 5 none n c Tryz.underlying22
  go_enter Tryz.func87,Tryz.ntmps87
  go_wp2
  go_ret
  exact Ret.mk (Ext.refl _) (Own.nil _ _)
 ·have HR:=hide hr
  have HL:=hide hl
  have hq:=fun (W:World)=>run_eql_nil (P:=Tryz.prog) W 22 5 (some a) n c Tryz.underlying22
  clear hr hl
  go_enter Tryz.func87,Tryz.ntmps87
  go_wp2_with (at_builtin;refine wpList_cat rfl (.tmp 5) (.tmp 6) rfl w.heap.size _ [] l _ n c rfl rfl hn.symm (Own.empty w) (HR.out.ext (Ext.alloc _ _)) (by simp) (by rw [List.length_nil,hn];have:=HL.out;omega) ?_;intro v2 w2 hown hb;rw [List.nil_append] at hown;have O2:=hide hown;have X2:Hid (Ext w w2):=hide (Below.trans (Ext.alloc w _) hb);clear hown hb)
  go_ret
  exact Ret.mk X2.out O2.out
def cutB (A:Option Addr) (c k:Nat):Option Addr:=if c=k then A else A.map (·.add k)
theorem byteSize:(Tryz.prog.info? 5).map (·.size)=some 1:=by kernel_rfl
theorem byteInfo:∃q,Tryz.prog.info? 5=some q∧q.size=1:=by
 have he:=byteSize
 cases hq:Tryz.prog.info? 5 with
 | none=>simp [hq] at he
 | some q=>exact ⟨q,rfl,by simpa [hq] using he⟩
theorem run_fromI (A:Option Addr) (n c k:Nat) (hk:k≤n) (w:World):(Instr.sliceAt 22 (.slice A n c) (some (.int .i64 (k:Int))) none none).run Tryz.prog w= .ok (.slice (cutB A c k) (n - k) (c - k)) w:=by
 obtain ⟨q,hq,hs⟩:=byteInfo
 have h1:(0:Int)≤(k:Int)∧(k:Int)≤(n:Int):=by omega
 have hcut:(Instr.slice 22 (.slice A n c) (some (.int .i64 (k:Int))) none none).run Tryz.prog w= .ok (.slice (cutB A c k) (n - k) (c - k)) w:=by
  simp [Instr.slice,run_underlying Tryz.underlying22,Instr.sliceBounds,Instr.sliceBound,asIntOf,hk,sizeOf,typeInfo,hq,hs,cutB]
 simp [Instr.sliceAt,run_underlying Tryz.underlying22,hcut]
theorem run_cutUI (A:Option Addr) (n c i j d:Nat) (hd:i + d=j) (hi:i≤j) (hj:j≤c) (w:World):(Instr.sliceAt 22 (.slice A n c) (some (.int .u64 (i:Int))) (some (.int .i64 (j:Int))) none).run Tryz.prog w= .ok (.slice (cutB A c i) d (c - i)) w:=by
 obtain ⟨q,hq,hs⟩:=byteInfo
 have hji:j - i=d:=by omega
 have hcut:(Instr.slice 22 (.slice A n c) (some (.int .u64 (i:Int))) (some (.int .i64 (j:Int))) none).run Tryz.prog w= .ok (.slice (cutB A c i) d (c - i)) w:=by
  simp [Instr.slice,run_underlying Tryz.underlying22,Instr.sliceBounds,Instr.sliceBound,asIntOf,hi,hj,sizeOf,typeInfo,hq,hs,hji,cutB]
 simp [Instr.sliceAt,run_underlying Tryz.underlying22,hcut]
theorem run_cutII (A:Option Addr) (n c i j d:Nat) (hd:i + d=j) (hi:i≤j) (hj:j≤c) (w:World):(Instr.sliceAt 22 (.slice A n c) (some (.int .i64 (i:Int))) (some (.int .i64 (j:Int))) none).run Tryz.prog w= .ok (.slice (cutB A c i) d (c - i)) w:=by
 obtain ⟨q,hq,hs⟩:=byteInfo
 have hji:j - i=d:=by omega
 have hcut:(Instr.slice 22 (.slice A n c) (some (.int .i64 (i:Int))) (some (.int .i64 (j:Int))) none).run Tryz.prog w= .ok (.slice (cutB A c i) d (c - i)) w:=by
  simp [Instr.slice,run_underlying Tryz.underlying22,Instr.sliceBounds,Instr.sliceBound,asIntOf,hi,hj,sizeOf,typeInfo,hq,hs,hji,cutB]
 simp [Instr.sliceAt,run_underlying Tryz.underlying22,hcut]
theorem Rd.cutF {w:World} {A:Option Addr} {l:List UInt8} {n c:Nat} (h:Rd w A l) (hn:l.length=n) (hc:n≤c) (k:Nat) (hk:k≤n):Rd w (cutB A c k) (l.drop k):=by
 unfold cutB
 split
 ·rw [List.drop_of_length_le (by omega)]
  exact Rd.nil _ _
 ·cases A with
  | none=>
   have hl0:l= []:=by
    cases l with
    | nil=>rfl
    | cons u r=>obtain ⟨_,_,hA,_⟩:=h (by simp);cases hA
   subst hl0
   rw [List.drop_nil]
   exact Rd.nil _ _
  | some a=>exact h.drop k
theorem Rd.cutT {w:World} {A:Option Addr} {l:List UInt8} {n c:Nat} (h:Rd w A l) (hn:l.length=n) (hc:n≤c) (k d:Nat) (hk:k + d≤n):Rd w (cutB A c k) ((l.drop k).take d):=(h.cutF hn hc k (by omega)).take d
theorem gives_fromV {P:Program} {o:Oper} {a:Act} {w:World} {R:Value→World→Prop} {x y:Operand} {t:Nat} {u z v:Value} (h:o.op= .slice t x (some y) none none) (hx:a.eval x=u) (hy:a.eval y=z) (hrun:(Instr.sliceAt t u (some z) none none).run P w= .ok v w) (hR:R v w):gives P o a w R:=by
 refine gives_of_run (w':=w) (v:=v) ?_ hR
 unfold execOp
 simp only [h,Option.map_none,Option.map_some,hx,hy,Sem.run_bind,hrun,Result.andThen_ok,Sem.run_pure]
theorem gives_cutV {P:Program} {o:Oper} {a:Act} {w:World} {R:Value→World→Prop} {x y z:Operand} {t:Nat} {u p q v:Value} (h:o.op= .slice t x (some y) (some z) none) (hx:a.eval x=u) (hy:a.eval y=p) (hz:a.eval z=q) (hrun:(Instr.sliceAt t u (some p) (some q) none).run P w= .ok v w) (hR:R v w):gives P o a w R:=by
 refine gives_of_run (w':=w) (v:=v) ?_ hR
 unfold execOp
 simp only [h,Option.map_none,Option.map_some,hx,hy,hz,Sem.run_bind,hrun,Result.andThen_ok,Sem.run_pure]
def runN (l:List UInt8):Nat→Nat→Nat
 | 0,e=>e
 | f + 1,e=>if whSz (l.drop e)=0 then e else runN l f (e + whSz (l.drop e))
theorem runN_le (l:List UInt8):∀f e,e≤l.length→e≤runN l f e∧runN l f e≤l.length
 | 0,e,h=>⟨Nat.le_refl _,h⟩
 | f + 1,e,h=>by
  have h1:=whSz_le (l.drop e)
  rw [List.length_drop] at h1
  unfold runN
  split
  ·exact ⟨Nat.le_refl _,h⟩
  ·have h2:=runN_le l f (e + whSz (l.drop e)) (by omega)
   omega
theorem runN_more (l:List UInt8):∀f e,e≤l.length→l.length≤e + f→runN l (f + 1) e=runN l f e
 | 0,e,h,hf=>by
  have h1:=whSz_le (l.drop e)
  rw [List.length_drop] at h1
  unfold runN runN
  rw [if_pos (by omega)]
 | f + 1,e,h,hf=>by
  have h1:=whSz_le (l.drop e)
  rw [List.length_drop] at h1
  unfold runN
  split
  ·rfl
  ·exact runN_more l f _ (by omega) (by omega)
def fnBase (L:Lg):Nat:=flo L.hd.fi
def fnAll (D:Dk) (L:Lg):List UInt8:=thP D L (L.hd.cn + 1) (fnBase L) (L.hd.old:Int)
def fnEnd (D:Dk) (L:Lg):Nat:=runN (fnAll D L) (fnAll D L).length (L.hd.fi - fnBase L)
def fnSure (D:Dk) (L:Lg):Nat:=fnBase L + fnEnd D L
def fnTail (D:Dk) (L:Lg):List UInt8:=((fnAll D L).take (fnEnd D L)).drop (flo (fnSure D L) - fnBase L)
def fnE (D:Dk) (L:Lg):Int:=if D.off=true then 8 else if L.hd.fi - fnBase L > (fnAll D L).length then 15 else if fnSure D L < L.hd.ck then 15 else 0
def fnL (D:Dk) (L:Lg):Lg:= { L with sure:=fnSure D L,tail:=fnTail D L }
theorem Own.low {w:World} {B B':Nat} {v:Value} {l:List UInt8} (h:Own w B v l) (hB:B'≤B):Own w B' v l:=by
 refine ⟨h.1, ?_⟩
 rcases h.2 with hn | ⟨g',cap,cur,hv,hb,hg,rest⟩
 ·exact .inl hn
 ·exact .inr ⟨g',cap,cur,hv,Nat.le_trans hB hb,hg,rest⟩
theorem DiskAt.keep1 {B g gd gn c:Nat} {w w':World} {A:Option Addr} {D:Dk} (h:DiskAt B w g gd gn A c D) (hk:∀k,(k=g∨k=gd∨k=gn∨∃a,A=some a∧a.block=k)→w'.heap[k]? =w.heap[k]?):DiskAt B w' g gd gn A c D:=
 ⟨(hk g (.inl rfl)).trans h.blk,(hk gd (.inr (.inl rfl))).trans h.dur,(hk gn (.inr (.inr (.inl rfl)))).trans h.new,ownsRow_far h.pen fun a ha=>hk _ (.inr (.inr (.inr ⟨a,ha,rfl⟩))),h.base⟩
section
variable {w0 w:World} {X:Bk} {D:Dk} {L:Lg}
theorem LgAt.diskAlt (h:LgAt w0 w X D L) {w':World} (ha:Alt X.q X.q w w'):DiskAt w0.heap.size w' X.g X.gd X.gn X.A X.c D:=by
 obtain ⟨⟨n1,n2,n3,n4⟩,-⟩:=h.ne
 refine h.disk.keep1 fun k hk=> ?_
 rcases hk with rfl | rfl | rfl | ⟨a,hA,rfl⟩
 ·exact ha.2.2 _ (Ne.symm n1) h.disk.blk.lt
 ·exact ha.2.2 _ (Ne.symm n2) h.disk.dur.lt
 ·exact ha.2.2 _ (Ne.symm n3) h.disk.new.lt
 ·exact ha.2.2 _ (n4 a hA) (own_base h.disk.pen a hA).2
theorem LgAt.put (h:LgAt w0 w X D L) (i:Nat) (v:Value) (L':Lg) (ht:L'.tail=L.tail) (hl:(logC X.g X.tv L).set i v=logC X.g X.tv L'):LgAt w0 (w.setCell ⟨X.q,i,none⟩ v) X D L':=by
 obtain ⟨-,n5⟩:=h.ne
 have ha:Alt X.q X.q w (w.setCell ⟨X.q,i,none⟩ v):=Alt.set
 refine ⟨h.ext.alt ha h.base,h.diskAlt ha,by rw [← hl];exact h.blk.set i v, ?_,h.base⟩
 rw [ht]
 exact h.tail.keep1 fun k hk=>ha.2.2 k (n5 k hk).1 (own_block h.tail k hk).2.1
theorem LgAt.putTail (h:LgAt w0 w X D L) (v:Value) (l:List UInt8) (hv:Own w w0.heap.size v l):LgAt w0 (w.setCell ⟨X.q,9,none⟩ v) { X with tv:=v } D { L with tail:=l }:=by
 have ha:Alt X.q X.q w (w.setCell ⟨X.q,9,none⟩ v):=Alt.set
 refine ⟨h.ext.alt ha h.base,h.diskAlt ha,h.blk.set 9 v, ?_,h.base⟩
 refine hv.keep1 fun k hk=>ha.2.2 k (fun e=> ?_) (own_block hv k hk).2.1
 subst e
 exact own_apartR h.blk (by decide) hv hk.symm
def FnPost (w0 w:World) (X:Bk) (D:Dk) (L:Lg) (e:Ending) (w':World):Prop:=
 e= .returned (.int .i64 (fnE D L))∧Alt X.q X.q w w'∧(fnE D L=0→∃tv',LgAt w0 w' { X with tv:=tv' } D (fnL D L)∧∀k,tv'.ownBlock=some k→w.heap.size≤k)
theorem find_any (h:LgAt w0 w X D L) (ok:L.Ok D) (b:Bd D) (hf:L.hd.fi < 576460752303423488) (hT:Tab w0):Calls Tryz.prog 52 #[.pointer (some ⟨X.q,0,none⟩)] w (FnPost w0 w X D L):=by
 have HL:=hide h
 have HB:=hide b
 have HT:=hide hT
 have HOK:=hide ok
 have HFI:=hide hf
 have HFL:Hid (flo L.hd.fi≤L.hd.fi):=hide (flo_le _)
 have KT:=hide (fun (W:World) (hW:Ext w W)=>there_any (h.ext_ hW) ok b (flo L.hd.fi) (by have:=flo_le L.hd.fi;omega) hT)
 have KF:=hide (floor_any L.hd.fi w (by omega))
 have c5:=h.blk.cell (i:=5) rfl
 have HLT:Hid (X.q < w.heap.size):=hide h.blk.lt
 obtain ⟨fi,HFE⟩:∃fi,Hid (L.hd.fi=fi):=⟨_,hide rfl⟩
 obtain ⟨bs_,HBS⟩:∃bs_,Hid (flo fi=bs_):=⟨_,hide rfl⟩
 rw [HFE.out,HBS.out] at KT KF HFL
 rw [HFE.out] at c5 HFI
 cases hd:D.off with
 | true=>
  have HE:Hid (fnE D L=8):=hide (by unfold fnE;rw [hd];rfl)
  rw [hd,if_pos rfl,if_pos rfl] at KT
  clear h b hT ok hf hd
  go_enter Tryz.func52,Tryz.ntmps52
  go_wp2_with (first
   | (go_at_call 84;(with_reducible refine KF.out.mono ?_);rintro e w2 ⟨rfl,rfl⟩)
   | (go_at_call 85;(with_reducible refine (KT.out w (Ext.refl w)).mono ?_);rintro e w2 ⟨v,rfl,hv,hx2⟩;have HX2:=hide hx2;clear hv hx2))
  go_ret
  exact ⟨by rw [HE.out];rfl,Alt.of_ext HX2.out (Nat.le_of_lt HLT.out),fun h=>by rw [HE.out] at h;cases h⟩
 | false=>
  rw [hd,if_neg (by decide),if_neg (by decide)] at KT
  have HAL:Hid (fnAll D L=thP D L (L.hd.cn + 1) bs_ (L.hd.old:Int)):=hide (by unfold fnAll fnBase;rw [HFE.out,HBS.out])
  rw [← HAL.out] at KT
  obtain ⟨al,HALN⟩:∃al,Hid (fnAll D L=al):=⟨_,hide rfl⟩
  have HEN:Hid (fnEnd D L=runN al al.length (fi - bs_)):=hide (by unfold fnEnd fnBase;rw [HALN.out,HFE.out,HBS.out])
  have HFE1:Hid (fnE D L=if fi - bs_ > al.length then 15 else if bs_ + fnEnd D L < L.hd.ck then 15 else 0):=hide (by unfold fnE fnSure fnBase;rw [hd,if_neg (by decide),HALN.out,HFE.out,HBS.out])
  have HALL:Hid (al.length < 4000000):=hide (by
   rw [← HALN.out]
   have h1:=thP_len D L (L.hd.cn + 1) (fnBase L) (L.hd.old:Int)
   have h2:=ok.cn
   unfold fnAll;omega)
  rw [HALN.out] at KT
  obtain ⟨m,HM⟩:∃m,Hid (fi - bs_=m):=⟨_,hide rfl⟩
  rw [HM.out] at HEN HFE1
  have hw1:IntKind.u64.wrap ((fi:Int) - (bs_:Int))=(m:Int):=by rw [IntKind.wrap_u64];have:=HM.out;have:=HFI.out;have:=HFL.out;omega
  have HMW:Hid (m < 1152921504606846976):=hide (by have:=HM.out;have:=HFI.out;omega)
  have hw2:IntKind.i64.wrap (m:Int)=(m:Int):=by rw [IntKind.wrap_i64];have:=HMW.out;omega
  obtain ⟨n,HN⟩:∃n,Hid (al.length=n):=⟨_,hide rfl⟩
  have KT2:Hid (Calls Tryz.prog 85 #[.pointer (some ⟨X.q,0,none⟩), .int .u64 (bs_:Int)] w (fun e w' =>∃A c,e= .returned (.tuple #[.slice A n c, .int .i64 0])∧n≤c∧Rd w' A al∧Ext w w')):=hide ((KT.out w (Ext.refl w)).mono (fun e w' ⟨v,he,hv,hx⟩=>by
   obtain ⟨A,c,rfl,hc,hr⟩:=hv.bytes
   rw [HN.out] at he hc
   exact ⟨A,c,he,hc,hr,hx⟩))
  rw [HN.out] at HEN HFE1 HALL
  clear KT
  have hnn:(n:Int) < 4000000:=by have:=HALL.out;omega
  by_cases hmn:m > n
  ·have HE:Hid (fnE D L=15):=hide (by rw [HFE1.out,if_pos hmn])
   have hmi:(n:Int) < (m:Int):=by omega
   clear h b hT ok hf hd hmn
   go_enter Tryz.func52,Tryz.ntmps52
   go_wp2_with (first
    | (go_at_call 84;(with_reducible refine KF.out.mono ?_);rintro e w2 ⟨rfl,rfl⟩)
    | (go_at_call 85;(with_reducible refine KT2.out.mono ?_);rintro e w2 ⟨A,c,rfl,hc,hr,hx2⟩;have HX2:=hide hx2;have c5b:=(HL.out.blk.ext hx2).cell (i:=5) rfl;rw [HFE.out] at c5b;clear hc hr hx2))
   go_ret
   exact ⟨by rw [HE.out];rfl,Alt.of_ext HX2.out (Nat.le_of_lt HLT.out),fun h=>by rw [HE.out] at h;cases h⟩
  ·have HMN:Hid (m≤n):=hide (by omega)
   have hmi:¬(n:Int) < (m:Int):=by omega
   clear h b hT ok hf hd hmn hnn
   go_enter Tryz.func52,Tryz.ntmps52
   go_upto_region 9 with (first
    | (go_at_call 84;(with_reducible refine KF.out.mono ?_);rintro e w2 ⟨rfl,rfl⟩)
    | (go_at_call 85;(with_reducible refine KT2.out.mono ?_);rintro e w2 ⟨A,c,rfl,hc,hr,hx2⟩;have HX2:=hide hx2;have c5b:=(HL.out.blk.ext hx2).cell (i:=5) rfl;rw [HFE.out] at c5b;have HC:=hide hc;have HR:=hide hr;clear hc hr hx2)
    | ((with_reducible show wpList _ _ _ (⟨some 37,_,_,_,_,_⟩::_) _ _);refine wpList_gives (gives_fromV rfl rfl rfl (run_fromI A n c m HMN.out _) ⟨rfl,rfl⟩) rfl ?_)
    | (go_at_call 86;(with_reducible refine (wholeSize_any (cutB A c m) (al.drop m) (n - m) (c - m) w2 (HR.out.cutF HN.out HC.out m HMN.out) (by rw [List.length_drop,HN.out]) (by have:=HALL.out;omega)).mono ?_);rintro e w3 ⟨rfl,hx3⟩;have HX3:=hide (HX2.out.trans hx3);have HR3:=hide (HR.out.ext hx3);clear hx3))
   have HRN:Hid (runN al n m=fnEnd D L):=hide (by rw [HEN.out])
   have HX33:Hid (Ext w3 w3):=hide (Ext.refl w3)
   clear hmi hw1 hw2 c5 c5b
   go_loopw [6,7] (fun x y wr=>∃e:Nat,e≤n∧x= .int .i64 (e:Int)∧y= .int .i64 (whSz (al.drop e):Int)∧Hid (Ext w3 wr)∧Hid (runN al n e=fnEnd D L)) (fun x _ _=>n + 1 - (intOf x).toNat)
   case atStart=>exact ⟨m,HMN.out,rfl,rfl,HX33,HRN⟩
   case round=>
    obtain ⟨e,he,rfl,rfl,HX,HRE⟩:=hrel
    have HRR:=hide (HR3.out.ext HX.out)
    have HXW:Hid (Ext w wr):=hide (HX3.out.trans HX.out)
    obtain ⟨z,HZ⟩:∃z,Hid (whSz (al.drop e)=z):=⟨_,hide rfl⟩
    have HZL:Hid (e + z≤n):=hide (by have h1:=whSz_le (al.drop e);rw [HZ.out,List.length_drop,HN.out] at h1;omega)
    have HST:Hid (runN al n e=if z=0 then e else runN al n (e + z)):=hide (by
     rw [← HZ.out]
     have h1:=runN_more al n e (by rw [HN.out];exact he) (by rw [HN.out];omega)
     rw [← h1]
     rfl)
    rw [HZ.out]
    by_cases hz:z=0
    ·subst hz
     have HEE:Hid (fnEnd D L=e):=hide (by rw [← HRE.out,HST.out,if_pos rfl])
     have hzz:¬((0:Nat):Int) > 0:=by omega
     have HLW:=hide (HL.out.ext_ HXW.out)
     have r8:=HLW.out.blk.cell (i:=8) rfl
     have f8:=HLW.out.blk.frozen 8
     obtain ⟨su,HSU⟩:∃su,Hid (bs_ + e=su):=⟨_,hide rfl⟩
     have HSUL:Hid (su < 1152921504606846976):=hide (by have:=HSU.out;have:=HFI.out;have:=HFL.out;have:=HALL.out;omega)
     have hws1:IntKind.u64.wrap (e:Int)=(e:Int):=by rw [IntKind.wrap_u64];have:=HALL.out;omega
     have hws2:IntKind.u64.wrap ((bs_:Int) + (e:Int))=(su:Int):=by rw [IntKind.wrap_u64];have:=HSU.out;have:=HSUL.out;omega
     have HL4:=hide (HLW.out.put 8 (.int .u64 (su:Int)) { L with sure:=su } rfl rfl)
     have HA4:Hid (Alt X.q X.q w (wr.setCell ⟨X.q,8,none⟩ (.int .u64 (su:Int)))):=hide ((Alt.of_ext HXW.out (Nat.le_of_lt HLT.out)).trans Alt.set)
     have s8:=HL4.out.blk.cell (i:=8) rfl
     have s6:=HL4.out.blk.cell (i:=6) rfl
     simp only at s8 s6
     have HR4:Hid (Rd (wr.setCell ⟨X.q,8,none⟩ (.int .u64 (su:Int))) A al):=hide (rd_laid2 HRR.out HLW.out.blk (by
      intro v hv z hz
      subst hz
      have htv:X.tv≠ .int .u8 z:=by
       intro e
       rcases HLW.out.tail.2 with ⟨h1,_⟩ | ⟨g',cap,cur,h1,_⟩ <;> rw [e] at h1 <;> cases h1
      simp [logC] at hv
      exact htv hv.symm) (Laid1.of_cell wr X.q 8 _))
     obtain ⟨w4,hw4⟩:∃w4,wr.setCell ⟨X.q,8,none⟩ (.int .u64 (su:Int))=w4:=⟨_,rfl⟩
     rw [hw4] at HL4 HA4 s8 s6 HR4
     have HFE2:Hid (fnE D L=if su < L.hd.ck then 15 else 0):=hide (by rw [HFE1.out,if_neg (by have:=HMN.out;omega),HEE.out,HSU.out])
     by_cases hck:su < L.hd.ck
     ·have HE:Hid (fnE D L=15):=hide (by rw [HFE2.out,if_pos hck])
      have hcki:(su:Int) < (L.hd.ck:Int):=by omega
      clear hck
      go_wp2
      go_region
      go_wp2
      go_ret
      exact ⟨by rw [HE.out];rfl,HA4.out.trans (Alt.of_ext (Ext.drew _) (Nat.le_of_lt HL4.out.blk.lt)),fun h=>by rw [HE.out] at h;cases h⟩
     ·have HE:Hid (fnE D L=0):=hide (by rw [HFE2.out,if_neg hck])
      have hcki:¬(su:Int) < (L.hd.ck:Int):=by omega
      clear hck
      go_wp2
      go_region
      have HOK4:Hid (({ L with sure:=su }:Lg).Ok D):=hide ⟨HOK.out.hd,HOK.out.cn,HOK.out.at_,HSUL.out,HOK.out.tail,HOK.out.held⟩
      have HL5:Hid (LgAt w0 w4.drew X D { L with sure:=su }):=hide (HL4.out.ext_ (Ext.drew _))
      have KTA:Hid (Calls Tryz.prog 88 #[.pointer (some ⟨X.q,0,none⟩)] w4.drew (Same w4.drew (.int .u64 (flo su:Int)))):=hide (tailAt_any HL5.out HOK4.out)
      obtain ⟨i,HI⟩:∃i,Hid (flo su - bs_=i):=⟨_,hide rfl⟩
      have HIE:Hid (i≤e∧bs_ + i=flo su):=hide (by
       have h1:=HI.out
       have h2:=HBS.out
       have h3:=HSU.out
       unfold flo at h1 h2 ⊢
       omega)
      obtain ⟨fs,HFS⟩:∃fs,Hid (flo su=fs):=⟨_,hide rfl⟩
      rw [HFS.out] at KTA HIE
      have hwi:IntKind.u64.wrap ((fs:Int) - (bs_:Int))=(i:Int):=by rw [IntKind.wrap_u64];have:=HIE.out.2;have:=HIE.out.1;have:=HALL.out;omega
      obtain ⟨d,HDD⟩:∃d,Hid (i + d=e):=⟨e - i,hide (by have:=HIE.out.1;omega)⟩
      have HTL:Hid ((al.drop i).take d=fnTail D L):=hide (by
       have h5:fnSure D L=su:=by unfold fnSure fnBase;rw [HEE.out,HFE.out,HBS.out,HSU.out]
       unfold fnTail
       rw [h5,HALN.out,HEE.out,HFS.out,show fnBase L=bs_ by unfold fnBase;rw [HFE.out,HBS.out],List.drop_take,show fs - bs_=i by have:=HIE.out.2;omega,show e - i=d by have:=HDD.out;omega])
      have HTLL:Hid (((al.drop i).take d).length=d):=hide (by rw [List.length_take,List.length_drop,HN.out];have:=HDD.out;omega)
      have HR5:Hid (Rd w4.drew A al):=hide (HR4.out.ext (Ext.drew _))
      have KCL:=hide (clone_any (cutB A c i) ((al.drop i).take d) d (c - i) w4.drew (HR5.out.cutT HN.out HC.out i d (by have:=HDD.out;omega)) HTLL.out (by have:=HDD.out;have:=HALL.out;omega))
      obtain ⟨tt,HTT⟩:∃tt,Hid ((al.drop i).take d=tt):=⟨_,hide rfl⟩
      rw [HTT.out] at KCL HTL HTLL
      go_wp2_with (first
       | (go_at_call 88;(with_reducible refine KTA.out.mono ?_);rintro e w5 ⟨rfl,rfl⟩)
       | ((with_reducible show wpList _ _ _ (⟨some 72,_,_,_,_,_⟩::_) _ _);refine wpList_gives (gives_cutV rfl rfl rfl rfl (run_cutUI A n c i e d HDD.out HIE.out.1 (by have:=HC.out;omega) _) ⟨rfl,rfl⟩) rfl ?_)
       | (go_at_call 87;(with_reducible refine KCL.out.mono ?_);rintro e w6 ⟨v,rfl,hx6,ho6⟩;obtain ⟨A6,c6,hv6,-,-⟩:=ho6.bytes;rw [HTLL.out] at hv6;subst hv6;have HOB:=hide (fun k hk=>(own_block ho6 k hk).1);have HX6:=hide hx6;have HO6:=hide (ho6.low (HL5.out.ext.size));have HL6:=hide (HL5.out.ext_ hx6);have r9:=HL6.out.blk.cell (i:=9) rfl;have f9:=HL6.out.blk.frozen 9;clear hx6 ho6))
      go_ret
      have HP9:=HL6.out.putTail _ _ HO6.out
      have e1:({ ({ L with sure:=su }:Lg) with tail:=tt }:Lg)=fnL D L:=by
       unfold fnL
       rw [show fnSure D L=su by unfold fnSure fnBase;rw [HEE.out,HFE.out,HBS.out,HSU.out],← HTL.out]
      rw [e1] at HP9
      exact ⟨by rw [HE.out];rfl,((HA4.out.trans (Alt.of_ext (Ext.drew _) (Nat.le_of_lt HL4.out.blk.lt))).trans (Alt.of_ext HX6.out (Nat.le_of_lt HL5.out.blk.lt))).trans Alt.set,fun _=>⟨_,HP9,fun k hk=>Nat.le_trans (HA4.out.trans (Alt.of_ext (Ext.drew _) (Nat.le_of_lt HL4.out.blk.lt))).2.1 (HOB.out k hk)⟩⟩
    ·obtain ⟨e2,HE2⟩:∃e2,Hid (e + z=e2):=⟨_,hide rfl⟩
     have HE2L:Hid (e2≤n):=hide (by rw [← HE2.out];exact HZL.out)
     have HRE2:Hid (runN al n e2=fnEnd D L):=hide (by rw [← HRE.out,HST.out,if_neg hz,HE2.out])
     have hwz:IntKind.i64.wrap ((e:Int) + (z:Int))=(e2:Int):=by rw [IntKind.wrap_i64];have:=HE2.out;have:=HE2L.out;have:=HALL.out;omega
     have hzi:(0:Int) < (z:Int):=by omega
     have HMS:Hid (n + 1 - e2 < n + 1 - e):=hide (by have:=HE2.out;have:=HE2L.out;omega)
     clear hz
     go_wp2_with (first
      | ((with_reducible show wpList _ _ _ (⟨some 43,_,_,_,_,_⟩::_) _ _);refine wpList_gives (gives_fromV rfl rfl rfl (run_fromI A n c e2 HE2L.out _) ⟨rfl,rfl⟩) rfl ?_)
      | (go_at_call 86;(with_reducible refine (wholeSize_any (cutB A c e2) (al.drop e2) (n - e2) (c - e2) wr (HRR.out.cutF HN.out HC.out e2 HE2L.out) (by rw [List.length_drop,HN.out]) (by have:=HALL.out;omega)).mono ?_);rintro e w5 ⟨rfl,hx5⟩;have HX5:=hide (HX.out.trans hx5);clear hx5))
     refine ⟨⟨e2,HE2L.out,rfl,rfl,HX5,HRE2⟩, ?_⟩
     show n + 1 - ((e2:Int)).toNat < n + 1 - ((e:Int)).toNat
     have:=HMS.out
     omega
end
def endOf (L:Lg):Nat:=flo L.sure + L.tail.length
def roomOf (L:Lg):Int:=(((L.hd.st / 480 + L.hd.cn) * 480:Nat):Int) - (endOf L:Int) - (L.held:Int)
section
variable {w0 w:World} {X:Bk} {D:Dk} {L:Lg}
theorem endOf_lt (ok:L.Ok D):endOf L < 1152921505680588800:=by
 have h1:=ok.sure
 have h2:=ok.tail
 have h3:=flo_le L.sure
 unfold endOf;omega
theorem end_any (h:LgAt w0 w X D L) (ok:L.Ok D):Calls Tryz.prog 75 #[.pointer (some ⟨X.q,0,none⟩)] w (fun e w' =>e= .returned (.int .u64 (endOf L:Int))∧∃m,w' =w.drewN m):=by
 have KT:Hid (∀(W:World),Ext w W→Calls Tryz.prog 88 #[.pointer (some ⟨X.q,0,none⟩)] W (fun e w' =>e= .returned (.int .u64 (flo L.sure:Int))∧∃m,w' =W.drewN m)):=hide (fun (W:World) (hW:Ext w W)=>(tailAt_any (h.ext_ hW) ok).mono (fun e w' hs=>by obtain ⟨rfl,rfl⟩:=hs;exact ⟨rfl,0,rfl⟩))
 obtain ⟨At,ct,htv,-,-⟩:=h.tail.bytes
 have c9:=h.blk.cell (i:=9) rfl
 rw [htv] at c9
 have HTL:Hid (L.tail.length < 1073741824):=hide ok.tail
 have HEL:=hide (endOf_lt ok)
 obtain ⟨n,HN⟩:∃n,Hid (L.tail.length=n):=⟨_,hide rfl⟩
 obtain ⟨f,HF⟩:∃f,Hid (flo L.sure=f):=⟨_,hide rfl⟩
 have HE:Hid (endOf L=f + n):=hide (by unfold endOf;rw [HF.out,HN.out])
 rw [HE.out] at HEL ⊢
 rw [HF.out] at KT
 rw [HN.out] at c9 HTL
 have hw1:IntKind.u64.wrap (n:Int)=(n:Int):=by rw [IntKind.wrap_u64];have:=HTL.out;omega
 have hw2:IntKind.u64.wrap ((f:Int) + (n:Int))=((f + n:Nat):Int):=by rw [IntKind.wrap_u64];have:=HEL.out;omega
 have HW2:=hide hw2
 obtain ⟨y,HY⟩:∃y:Int,Hid (((f + n:Nat):Int)=y):=⟨_,hide rfl⟩
 rw [HY.out] at hw2 ⊢
 clear h ok htv
 go_enter Tryz.func75,Tryz.ntmps75
 go_wp2
 go_quiet ((go_at_call 88;exact Calls.quiet_of (KT.out _ ((Ext.refl _).drewN _))))
 go_wp2
 go_ret
 exact ⟨rfl,_,rfl⟩
theorem room_any (h:LgAt w0 w X D L) (ok:L.Ok D) (hs:L.hd.st < 1152921504606846976):Calls Tryz.prog 42 #[.pointer (some ⟨X.q,0,none⟩)] w (fun e w' =>e= .returned (.int .i64 (roomOf L))∧∃m,w' =w.drewN m):=by
 have KE:=hide (fun (W:World) (hW:Ext w W)=>end_any (h.ext_ hW) ok)
 have HL:=hide h
 have c4:=h.blk.cell (i:=4) rfl
 have c7:=h.blk.cell (i:=7) rfl
 have c10:=h.blk.cell (i:=10) rfl
 have hcn:=ok.cn.2
 have hen:=endOf_lt ok
 have hhe:=ok.held
 have HR:Hid (roomOf L=((L.hd.st:Int) / 480 + (L.hd.cn:Int)) * 480 - (endOf L:Int) - (L.held:Int)):=hide (by unfold roomOf;omega)
 rw [HR.out]
 obtain ⟨en,HEN⟩:∃en,Hid (endOf L=en):=⟨_,hide rfl⟩
 rw [HEN.out] at KE hen ⊢
 generalize L.hd.st=st at *
 generalize L.hd.cn=cn at *
 generalize L.held=he at *
 have hw0:IntKind.u64.wrap ((st:Int) / 480)=(st:Int) / 480:=by rw [IntKind.wrap_u64];omega
 have hw1:IntKind.u64.wrap ((st:Int) / 480 + (cn:Int))=(st:Int) / 480 + (cn:Int):=by rw [IntKind.wrap_u64];omega
 have hw2:IntKind.u64.wrap (((st:Int) / 480 + (cn:Int)) * 480)=((st:Int) / 480 + (cn:Int)) * 480:=by rw [IntKind.wrap_u64];omega
 have hw3:IntKind.i64.wrap (IntKind.u64.wrap (((st:Int) / 480 + (cn:Int)) * 480 - (en:Int)))=((st:Int) / 480 + (cn:Int)) * 480 - (en:Int):=by rw [IntKind.wrap_u64,IntKind.wrap_i64];omega
 have hw4:IntKind.i64.wrap (((st:Int) / 480 + (cn:Int)) * 480 - (en:Int) - (he:Int))=((st:Int) / 480 + (cn:Int)) * 480 - (en:Int) - (he:Int):=by rw [IntKind.wrap_i64];omega
 clear h ok hcn hen hhe hs
 go_enter Tryz.func42,Tryz.ntmps42
 go_wp2
 go_quiet ((go_at_call 75;exact Calls.quiet_of (KE.out _ ((Ext.refl _).drewN _))))
 go_wp2
 go_ret
 exact ⟨rfl,_,rfl⟩
end
def nextL (L:Lg):Lg:= { L with hd:= { L.hd with ep:=(L.hd.ep + 1) % 18446744073709551616 } }
def bgB (L:Lg):List UInt8:=sealB 1 (nextL L).hd.ns []
def bgP (L:Lg):List UInt8:=partB (nextL L) (flo L.sure) L.tail
def bgS (L:Lg):Int:=(secOf (nextL L) (flo L.sure):Int)
def bgE (D:Dk) (L:Lg):Int:=
 if wE D L.at_ (bgB L)≠0 then wE D L.at_ (bgB L)
 else if roomOf (nextL L) > 0 then (if wE (wD D L.at_ (bgB L)) (bgS L) (bgP L)≠0 then wE (wD D L.at_ (bgB L)) (bgS L) (bgP L) else sE (wD (wD D L.at_ (bgB L)) (bgS L) (bgP L)))
 else sE (wD D L.at_ (bgB L))
def bgD (D:Dk) (L:Lg):Dk:=
 if wE D L.at_ (bgB L)≠0 then wD D L.at_ (bgB L)
 else if roomOf (nextL L) > 0 then (if wE (wD D L.at_ (bgB L)) (bgS L) (bgP L)≠0 then wD (wD D L.at_ (bgB L)) (bgS L) (bgP L) else sD (wD (wD D L.at_ (bgB L)) (bgS L) (bgP L)))
 else sD (wD D L.at_ (bgB L))
section
variable {w0 w w1:World} {X:Bk} {D D':Dk} {L L':Lg} {r:Value} {e:Ending} {w':World}
theorem Lg.Ok.onD (ok:L.Ok D) (h:D'.dur.length=D.dur.length):L.Ok D':=⟨ok.hd,ok.cn,by rw [h];exact ok.at_,ok.sure,ok.tail,ok.held⟩
theorem Lfr.cell (X:Bk) (w:World) (i:Nat) (v:Value):Lfr X w (w.setCell ⟨X.q,i,none⟩ v):=⟨rfl,rfl,rfl,by simp,fun k _ hn=>Below.heap_setCell w ⟨X.q,i,none⟩ v k (fun e=>hn (.inl e))⟩
theorem nextL_ok (ok:L.Ok D):(nextL L).Ok D:=⟨⟨Nat.mod_lt _ (by decide),ok.hd.old,ok.hd.st,ok.hd.fi,ok.hd.ck,ok.hd.cn⟩,ok.cn,ok.at_,ok.sure,ok.tail,ok.held⟩
theorem gsync_any (h:LgAt w0 w X D L) (b:Bd D):Calls Tryz.prog 47 #[.pointer (some ⟨X.g,0,none⟩)] w (LPost w0 w X (.int .i64 (sE D)) (sD D) L):=(sync_uni h.disk b h.ext.size).mono fun _ _ hp=>LPost.of_disk h hp
theorem begin_any (h:LgAt w0 w X D L) (ok:L.Ok D) (b:Bd D) (hp:D.pen.length < 800000) (ho:D.ops < 800000) (htl:L.tail.length≤480) (hs:L.hd.st < 1152921504606846976) (hT:Tab w0):Calls Tryz.prog 53 #[.pointer (some ⟨X.q,0,none⟩)] w (LPost w0 w X (.int .i64 (bgE D L)) (bgD D L) (nextL L)):=by
 have HL:=hide h
 have HT:=hide hT
 have HOK:=hide (nextL_ok ok)
 have HTL:=hide htl
 have HS:=hide hs
 have c2:=h.blk.cell (i:=2) rfl
 have f2:=h.blk.frozen 2
 have hep:=ok.hd.ep
 obtain ⟨ep1,HEP⟩:∃ep1:Nat,Hid ((L.hd.ep + 1) % 18446744073709551616=ep1):=⟨_,hide rfl⟩
 have hwe:IntKind.u64.wrap ((L.hd.ep:Int) + 1)=(ep1:Int):=by rw [IntKind.wrap_u64];have:=HEP.out;omega
 have HL1:Hid (LgAt w0 (w.setCell ⟨X.q,2,none⟩ (.int .u64 (ep1:Int))) X D (nextL L)):=hide (h.put 2 _ (nextL L) rfl (by rw [← HEP.out];rfl))
 have HF1:Hid (Lfr X w (w.setCell ⟨X.q,2,none⟩ (.int .u64 (ep1:Int)))):=hide (Lfr.cell X w 2 _)
 obtain ⟨wa,hwa⟩:∃wa,w.setCell ⟨X.q,2,none⟩ (.int .u64 (ep1:Int))=wa:=⟨_,rfl⟩
 rw [hwa] at HL1 HF1
 have d0:=HL1.out.blk.cell (i:=0) rfl
 have d1:=HL1.out.blk.cell (i:=1) rfl
 have d2:=HL1.out.blk.cell (i:=2) rfl
 have d3:=HL1.out.blk.cell (i:=3) rfl
 have d4:=HL1.out.blk.cell (i:=4) rfl
 have d5:=HL1.out.blk.cell (i:=5) rfl
 have d6:=HL1.out.blk.cell (i:=6) rfl
 have d7:=HL1.out.blk.cell (i:=7) rfl
 have hb1:(nextL L).at_=L.at_:=rfl
 obtain ⟨L1,HLE⟩:∃L1,Hid (nextL L=L1):=⟨_,hide rfl⟩
 obtain ⟨q1,HQ1⟩:∃q1,Hid (bgB L=q1):=⟨_,hide rfl⟩
 have HQ1':Hid (sealB 1 L1.hd.ns []=q1):=hide (by rw [← HQ1.out,← HLE.out];rfl)
 have HWH:Hid (∀W,Ext wa W→Calls Tryz.prog 50 #[.pointer (some ⟨X.g,0,none⟩), .int .i64 (L.at_:Int), .agg #[.int .u64 (L1.hd.ep:Int), .int .u64 (L1.hd.old:Int), .int .u64 (L1.hd.st:Int), .int .u64 (L1.hd.fi:Int), .int .u64 (L1.hd.ck:Int), .int .u64 (L1.hd.cn:Int)]] W (DPost w0.heap.size X.g X.gd X.gn W X.A (.int .i64 (wE D L.at_ q1)) (wD D L.at_ q1))):=hide (fun W hW=>by
  have k:=writeHead_any (HL1.out.disk.ext hW) b (Nat.le_trans HL1.out.ext.size hW.size) (L.at_:Int) L1.hd (by rw [← HLE.out];exact HOK.out.hd) (HT.out.ext (HL1.out.ext.trans hW))
  rw [HQ1'.out] at k
  exact k)
 obtain ⟨b1,p1,o1,l1⟩:=wD_bd b (by omega) (by omega) (L.at_:Int) q1
 have hat:L1.at_=L.at_:=by rw [← HLE.out];rfl
 rw [HLE.out] at d1 d2 d3 d4 d5 d6 d7 HL1 HOK
 rw [hat] at d1
 obtain ⟨e1,HE1⟩:∃e1,Hid (wE D L.at_ q1=e1):=⟨_,hide rfl⟩
 obtain ⟨D1,HD1⟩:∃D1,Hid (wD D L.at_ q1=D1):=⟨_,hide rfl⟩
 rw [HE1.out,HD1.out] at HWH
 rw [HD1.out] at b1 p1 o1 l1
 have HB1:=hide b1
 have HOK1:Hid (L1.Ok D1):=hide (HOK.out.onD l1)
 have HP1:Hid (D1.pen.length < 850000∧D1.ops < 850000):=hide (by omega)
 have HBE:Hid (bgE D L=if e1≠0 then e1 else if roomOf L1 > 0 then (if wE D1 (bgS L) (bgP L)≠0 then wE D1 (bgS L) (bgP L) else sE (wD D1 (bgS L) (bgP L))) else sE D1):=hide (by unfold bgE;rw [HQ1.out,HE1.out,HD1.out,HLE.out])
 have HBD:Hid (bgD D L=if e1≠0 then D1 else if roomOf L1 > 0 then (if wE D1 (bgS L) (bgP L)≠0 then wD D1 (bgS L) (bgP L) else sD (wD D1 (bgS L) (bgP L))) else sD D1):=hide (by unfold bgD;rw [HQ1.out,HE1.out,HD1.out,HLE.out])
 obtain ⟨xE,HXE⟩:∃xE,Hid (bgE D L=xE):=⟨_,hide rfl⟩
 obtain ⟨xD,HXD⟩:∃xD,Hid (bgD D L=xD):=⟨_,hide rfl⟩
 rw [HXE.out] at HBE ⊢
 rw [HXD.out] at HBD ⊢
 have HST1:Hid (L1.hd.st < 1152921504606846976):=hide (by rw [← HLE.out];exact hs)
 have HSU:Hid (L1.sure=L.sure∧L1.tail=L.tail):=hide (by rw [← HLE.out];exact ⟨rfl,rfl⟩)
 have HBS:Hid (bgS L=(secOf L1 (flo L.sure):Int)∧bgP L=partB L1 (flo L.sure) L.tail):=hide (by unfold bgS bgP;rw [HLE.out];exact ⟨rfl,rfl⟩)
 rw [HLE.out]
 clear h b hT ok hp ho htl hs hep b1 p1 o1 l1 hb1 hat
 go_enter Tryz.func53,Tryz.ntmps53
 go_upto_region 2 with fail
 go_region_law (first
  | (go_simp;go_at_call 50;(with_reducible refine (HWH.out _ (Ext.drew _)).mono ?_);rintro e w2 hp2;have HPA:=hide (LPost.trans HF1.out (Bk.Later.refl _ _) (LPost.pre (Ext.drew _) (LPost.of_disk (HL1.out.ext_ (Ext.drew _)) hp2)));obtain ⟨A2,c2',rfl,-⟩:=hp2))
 all_goals
  clear d0 d1 d2 d3 d4 d5 d6 d7 c2 f2 hwe
  by_cases he1:e1=0
  ·subst he1
   have HBE2:Hid (xE=if roomOf L1 > 0 then (if wE D1 (bgS L) (bgP L)≠0 then wE D1 (bgS L) (bgP L) else sE (wD D1 (bgS L) (bgP L))) else sE D1):=hide (by rw [HBE.out,if_neg (by decide)])
   have HBD2:Hid (xD=if roomOf L1 > 0 then (if wE D1 (bgS L) (bgP L)≠0 then wD D1 (bgS L) (bgP L) else sD (wD D1 (bgS L) (bgP L))) else sD D1):=hide (by rw [HBD.out,if_neg (by decide)])
   obtain ⟨X2,-,HL2,HF2,HN2⟩:=HPA.out
   replace HL2:=hide HL2
   replace HF2:=hide HF2
   replace HN2:=hide HN2
   have hq2:X2.q=X.q:=HN2.out.q
   have KRM:=hide (room_any HL2.out HOK1.out HST1.out)
   rw [hq2] at KRM
   obtain ⟨rm,HRM⟩:∃rm,Hid (roomOf L1=rm):=⟨_,hide rfl⟩
   rw [HRM.out] at KRM HBE2 HBD2
   have g0:=HL2.out.blk.cell (i:=0) rfl
   rw [hq2] at g0
   by_cases hrm:rm > 0
   ·have hri:(0:Int) < rm:=hrm
    obtain ⟨At,ct,htv,-,hrt⟩:=HL2.out.tail.bytes
    have HRT:=hide hrt
    have g9:=HL2.out.blk.cell (i:=9) rfl
    rw [hq2,htv] at g9
    have KTA:Hid (∀W,Ext w2 W→Calls Tryz.prog 88 #[.pointer (some ⟨X.q,0,none⟩)] W (Same W (.int .u64 (flo L1.sure:Int)))):=hide (fun W hW=>by have k:=tailAt_any (HL2.out.ext_ hW) HOK1.out;rw [hq2] at k;exact k)
    have KGW:Hid (∀W,Ext w2 W→Calls Tryz.prog 89 #[.pointer (some ⟨X.q,0,none⟩), .int .u64 (flo L1.sure:Int), .slice At L1.tail.length ct] W (LPost w0 W X2 (.int .i64 (wE D1 (secOf L1 (flo L1.sure)) (partB L1 (flo L1.sure) L1.tail))) (wD D1 (secOf L1 (flo L1.sure)) (partB L1 (flo L1.sure) L1.tail)) L1)):=hide (fun W hW=>by
     have k:=gwrite_any (HL2.out.ext_ hW) HOK1.out HB1.out (flo L1.sure) (by have h1:=flo_le L1.sure;have h2:=HOK1.out.sure;omega) At ct L1.tail.length L1.tail (HRT.out.ext hW) rfl (by rw [HSU.out.2];exact HTL.out) HT.out
     rw [hq2] at k
     exact k)
    have HBS2:Hid (bgS L=(secOf L1 (flo L1.sure):Int)∧bgP L=partB L1 (flo L1.sure) L1.tail):=hide (by rw [HSU.out.1,HSU.out.2];exact HBS.out)
    obtain ⟨s2,HS2⟩:∃s2:Int,Hid ((secOf L1 (flo L1.sure):Int)=s2):=⟨_,hide rfl⟩
    obtain ⟨q2,HQ2⟩:∃q2,Hid (partB L1 (flo L1.sure) L1.tail=q2):=⟨_,hide rfl⟩
    obtain ⟨e2,HE2⟩:∃e2,Hid (wE D1 s2 q2=e2):=⟨_,hide rfl⟩
    obtain ⟨D2,HD2⟩:∃D2,Hid (wD D1 s2 q2=D2):=⟨_,hide rfl⟩
    have KGW2:Hid (∀W,Ext w2 W→Calls Tryz.prog 89 #[.pointer (some ⟨X.q,0,none⟩), .int .u64 (flo L1.sure:Int), .slice At L1.tail.length ct] W (LPost w0 W X2 (.int .i64 e2) D2 L1)):=hide (by rw [← HE2.out,← HD2.out,← HS2.out,← HQ2.out];exact KGW.out)
    have HBE3:Hid (xE=(if e2≠0 then e2 else sE D2)∧xD=(if e2≠0 then D2 else sD D2)):=hide (by rw [HBE2.out,HBD2.out,if_pos hrm,if_pos hrm,HBS2.out.1,HBS2.out.2,HS2.out,HQ2.out,HE2.out,HD2.out];exact ⟨rfl,rfl⟩)
    have HB2:Hid (Bd D2):=hide (by rw [← HD2.out];exact (wD_bd HB1.out (by have:=HP1.out;omega) (by have:=HP1.out;omega) s2 q2).1)
    have HOK2:Hid (L1.Ok D2):=hide (HOK1.out.onD (by rw [← HD2.out];exact (wD_bd HB1.out (by have:=HP1.out;omega) (by have:=HP1.out;omega) s2 q2).2.2.2))
    have HQX:=hide hq2
    obtain ⟨fl,HFL⟩:∃fl:Nat,Hid (flo L1.sure=fl):=⟨_,hide rfl⟩
    obtain ⟨nt,HNT⟩:∃nt:Nat,Hid (L1.tail.length=nt):=⟨_,hide rfl⟩
    rw [HFL.out] at KTA KGW2
    rw [HNT.out] at KGW2 g9
    clear KGW hrm hq2 htv hrt
    go_upto_region 6 with (go_at_call 42;(with_reducible refine KRM.out.mono ?_);rintro e w3 ⟨rfl,m3,rfl⟩;have HX3:Hid (Ext w2 (w2.drewN m3)):=hide ((Ext.refl _).drewN _))
    go_region_law (first
     | (go_simp;go_at_call 88;(with_reducible refine (KTA.out _ ((Ext.refl w2).drewN _)).mono ?_);rintro e w4 ⟨rfl,rfl⟩)
     | (go_simp;go_at_call 89;(with_reducible refine (KGW2.out _ ((Ext.refl w2).drewN _)).mono ?_);rintro e w5 hp5;have HP5:=hide (LPost.trans HF2.out HN2.out (LPost.pre ((Ext.refl w2).drewN _) hp5));obtain ⟨X5',rfl,-⟩:=hp5))
    all_goals
     by_cases he2:e2=0
     ·subst he2
      have HBE4:Hid (xE=sE D2∧xD=sD D2):=hide (by rw [HBE3.out.1,HBE3.out.2,if_neg (by decide),if_neg (by decide)];exact ⟨rfl,rfl⟩)
      obtain ⟨X5,-,HL5,HF5,HN5⟩:=HP5.out
      replace HL5:=hide HL5
      replace HF5:=hide HF5
      replace HN5:=hide HN5
      have hq5:X5.q=X.q:=HN5.out.q
      have hg5:X5.g=X.g:=HN5.out.g
      have g0b:=HL5.out.blk.cell (i:=0) rfl
      rw [hq5,hg5] at g0b
      have KSY:=hide (gsync_any HL5.out HB2.out)
      rw [hg5] at KSY
      clear hq5 hg5
      go_wp2_with (go_at_call 47;(with_reducible refine KSY.out.mono ?_);rintro e w6 hp6;have HP6:=hide (LPost.trans HF5.out HN5.out hp6);obtain ⟨X6,rfl,-⟩:=hp6)
      go_ret
      rw [HBE4.out.1,HBE4.out.2]
      exact HP6.out
     ·have HBE4:Hid (xE=e2∧xD=D2):=hide (by rw [HBE3.out.1,HBE3.out.2,if_pos he2,if_pos he2];exact ⟨rfl,rfl⟩)
      have hee2:(e2 !=0)=true:=by simpa using he2
      clear he2
      go_wp2
      go_ret
      rw [HBE4.out.1,HBE4.out.2]
      exact HP5.out
   ·have HBE3:Hid (xE=sE D1∧xD=sD D1):=hide (by rw [HBE2.out,HBD2.out,if_neg hrm,if_neg hrm];exact ⟨rfl,rfl⟩)
    have hri:¬(0:Int) < rm:=by omega
    have HQ2:=hide hq2
    clear hrm hq2
    go_wp2_with (first
     | (go_at_call 42;(with_reducible refine KRM.out.mono ?_);rintro e w3 ⟨rfl,m3,rfl⟩;have HX3:Hid (Ext w2 (w2.drewN m3)):=hide ((Ext.refl _).drewN _))
     | (go_at_call 47;(with_reducible refine (gsync_any (HL2.out.ext_ HX3.out) HB1.out).mono ?_);rintro e w4 hp4;have HP4:=hide (LPost.trans HF2.out HN2.out (LPost.pre HX3.out hp4));obtain ⟨X4,rfl,-⟩:=hp4))
    go_ret
    rw [HBE3.out.1,HBE3.out.2]
    exact HP4.out
  ·have HBE2:Hid (xE=e1∧xD=D1):=hide (by rw [HBE.out,HBD.out,if_pos he1,if_pos he1];exact ⟨rfl,rfl⟩)
   have hee:(e1 !=0)=true:=by simpa using he1
   go_wp2
   go_ret
   rw [HBE2.out.1,HBE2.out.2]
   exact HPA.out
end
def op0 (D:Dk) (at_:Int):Lg:=⟨at_.toNat,rhH D at_,0, [],0⟩
def opF (D:Dk) (at_:Int):Lg:=fnL D (op0 D at_)
def opE (D:Dk) (at_ count:Int):Int:=
 if fitsE D.dur.length at_ count≠0 then fitsE D.dur.length at_ count else if rhE D at_≠0 then rhE D at_
 else if ((rhH D at_).cn:Int)≠count then 3 else if fnE D (op0 D at_)≠0 then fnE D (op0 D at_) else bgE D (opF D at_)
def opD (D:Dk) (at_ count:Int):Dk:=
 if fitsE D.dur.length at_ count≠0 then D else if rhE D at_≠0 then D
 else if ((rhH D at_).cn:Int)≠count then D else if fnE D (op0 D at_)≠0 then D else bgD D (opF D at_)
def opL (D:Dk) (at_:Int):Lg:=nextL (opF D at_)
def OPost (w0 w:World) (g gd gn:Nat) (A:Option Addr) (D':Dk) (er:Int) (L':Lg) (e:Ending) (w':World):Prop:=
 (er=0→∃X',e= .returned (.tuple #[.pointer (some ⟨X'.q,0,none⟩), .int .i64 0])∧LgAt w0 w' X' D' L'∧X'.g=g∧X'.gd=gd∧X'.gn=gn∧Dfr g gd gn A w w'∧Newer w A X'.A∧w.heap.size≤X'.q∧(∀k,X'.tv.ownBlock=some k→(∃a,A=some a∧a.block=k)∨w.heap.size≤k))
 ∧(er≠0→DPost w0.heap.size g gd gn w A (.tuple #[.pointer none, .int .i64 er]) D' e w')
theorem fn_ok {D:Dk} {L:Lg} (hfe:fnE D L=0) (hfi:L.hd.fi < 576460752303423488) (hcn:L.hd.cn≤4096):fnSure D L < 1152921504606846976∧(fnTail D L).length≤480:=by
 have h1:=thP_len D L (L.hd.cn + 1) (fnBase L) (L.hd.old:Int)
 unfold fnE at hfe
 split at hfe
 ·cases hfe
 ·split at hfe
  ·cases hfe
  ·rename_i h2
   have h3:=runN_le (fnAll D L) (fnAll D L).length (L.hd.fi - fnBase L) (by omega)
   have h4:(fnAll D L).length≤480 * (L.hd.cn + 1):=h1
   have h5:=flo_le L.hd.fi
   have h6:fnBase L=flo L.hd.fi:=rfl
   have h7:fnEnd D L=runN (fnAll D L) (fnAll D L).length (L.hd.fi - fnBase L):=rfl
   have h8:fnSure D L=fnBase L + fnEnd D L:=rfl
   refine ⟨by omega, ?_⟩
   unfold fnTail
   rw [List.length_drop,List.length_take]
   unfold flo at h6 ⊢
   omega
section
variable {g gd gn c:Nat} {w0 w w1:World} {A:Option Addr} {D D':Dk} {L':Lg} {er:Int} {e:Ending} {w':World}
theorem OPost.no (h:er≠0) (hp:DPost w0.heap.size g gd gn w A (.tuple #[.pointer none, .int .i64 er]) D' e w'):OPost w0 w g gd gn A D' er L' e w':=⟨fun h2=>absurd h2 h,fun _=>hp⟩
theorem Lfr.dfr {X:Bk} (hx:Ext w w1) (hg:X.g=g) (hgd:X.gd=gd) (hgn:X.gn=gn) (hA:X.A=A) (hq:w.heap.size≤X.q) (ht:∀k,X.tv.ownBlock=some k→w.heap.size≤k) (hf:Lfr X w1 w'):Dfr g gd gn A w w':=by
 refine ⟨hf.os.trans hx.os,hf.tape.trans hx.tape,hf.output.trans hx.output,Nat.le_trans hx.size hf.size,fun k hk h1 h2 h3 h4=>(hf.other k (Nat.lt_of_lt_of_le hk hx.size) (fun hh=> ?_)).trans (Below.block hx k hk)⟩
 unfold Bk.has at hh
 rw [hg,hgd,hgn,hA] at hh
 rcases hh with hh | hh | hh | hh | ⟨a,ha,hh⟩ | hh
 ·omega
 ·exact h1 hh
 ·exact h2 hh
 ·exact h3 hh
 ·exact h4 a ha hh
 ·have:=ht k hh;omega
theorem Bk.Later.newer {X X':Bk} {L:Lg} (hx:Ext w w1) (hA:X.A=A) (hq:w.heap.size≤X.q) (ht:∀k,X.tv.ownBlock=some k→w.heap.size≤k) (hl:X'.Later X w1) (h:LgAt w0 w' X' D' L):Newer w A X'.A∧(∀k,X'.tv.ownBlock=some k→(∃a,A=some a∧a.block=k)∨w.heap.size≤k):=by
 obtain ⟨-,-,-,d4⟩:=h.disk.ne
 obtain ⟨⟨n1,n2,n3,n4⟩,n5⟩:=h.ne
 refine ⟨fun a' ha' => ?_,fun k hk=> ?_⟩
 ·obtain ⟨m1,m2,m3⟩:=d4 a' ha'
  rw [hl.g] at m1
  rw [hl.gd] at m2
  rw [hl.gn] at m3
  rcases hl.has a'.block (.inr (.inr (.inr (.inr (.inl ⟨a',ha',rfl⟩))))) with hh | hh
  ·rcases hh with hh | hh | hh | hh | ⟨a,ha,hh⟩ | hh
   ·exact .inr (by omega)
   ·exact absurd hh m1
   ·exact absurd hh m2
   ·exact absurd hh m3
   ·exact .inl ⟨a,hA▸ha,hh⟩
   ·exact .inr (ht _ hh)
  ·exact .inr (Nat.le_trans hx.size hh)
 ·obtain ⟨m1,m2,m3,m4,m5⟩:=n5 k hk
  rw [hl.g] at m2
  rw [hl.gd] at m3
  rw [hl.gn] at m4
  rcases hl.has k (.inr (.inr (.inr (.inr (.inr hk))))) with hh | hh
  ·rcases hh with hh | hh | hh | hh | ⟨a,ha,hh⟩ | hh
   ·exact .inr (by omega)
   ·exact absurd hh m2
   ·exact absurd hh m3
   ·exact absurd hh m4
   ·exact .inl ⟨a,hA▸ha,hh⟩
   ·exact .inr (ht _ hh)
  ·exact .inr (Nat.le_trans hx.size hh)
theorem open_any (hx0:Ext w0 w) (h:DiskAt w0.heap.size w g gd gn A c D) (b:Bd D) (hp:D.pen.length < 800000) (ho:D.ops < 800000) (hT:Tab w0) (at_ count:Int) (h1: -9223372036854775808≤at_∧at_ < 9223372036854775808) (h2: -9223372036854775808≤count∧count < 9223372036854775808)
  (hfi:(rhH D at_).fi < 576460752303423488) (hst:(rhH D at_).st < 1152921504606846976):
  Calls Tryz.prog 29 #[.pointer (some ⟨g,0,none⟩), .int .i64 at_, .int .i64 count] w (OPost w0 w g gd gn A (opD D at_ count) (opE D at_ count) (opL D at_)):=by
 have HD:=hide h
 have HB:=hide b
 have HX0:=hide hx0
 have HT:=hide hT
 have hmx:=b.ok.max
 have KF:=hide (fits_any h b at_ count h1 h2)
 rcases fits_two D.dur.length at_ count with hf | hf
 ·have hfi2:=fits_in hf
  obtain ⟨i0,i4,i5⟩:=hfi2
  obtain ⟨a,rfl⟩:∃a:Nat,at_=(a:Int):=⟨at_.toNat,by omega⟩
  obtain ⟨n,rfl⟩:∃n:Nat,count=(n:Int):=⟨count.toNat,by omega⟩
  have KR:=hide (readHead_any h b (a:Int) (hT.ext hx0))
  rw [hf] at KF
  obtain ⟨H,HH⟩:∃H,Hid (rhH D a=H):=⟨_,hide rfl⟩
  obtain ⟨er,HER⟩:∃er,Hid (rhE D a=er):=⟨_,hide rfl⟩
  have HHO:Hid H.Ok:=hide (by
   rw [← HH.out]
   unfold rhH
   split
   ·exact hdOf_ok _
   ·exact ⟨by decide,by decide,by decide,by decide,by decide,by decide⟩)
  rw [HH.out] at hfi hst KR
  rw [HER.out] at KR
  have HOE:Hid (opE D a n=if er≠0 then er else if (H.cn:Int)≠(n:Int) then 3 else if fnE D (op0 D a)≠0 then fnE D (op0 D a) else bgE D (opF D a)):=hide (by unfold opE;rw [hf,if_neg (by decide),HER.out,HH.out])
  have HOD:Hid (opD D a n=if er≠0 then D else if (H.cn:Int)≠(n:Int) then D else if fnE D (op0 D a)≠0 then D else bgD D (opF D a)):=hide (by unfold opD;rw [hf,if_neg (by decide),HER.out,HH.out])
  obtain ⟨xE,HXE⟩:∃xE,Hid (opE D a n=xE):=⟨_,hide rfl⟩
  obtain ⟨xD,HXD⟩:∃xD,Hid (opD D a n=xD):=⟨_,hide rfl⟩
  rw [HXE.out] at HOE ⊢
  rw [HXD.out] at HOD ⊢
  have HH0:Hid (op0 D a=⟨a,H,0, [],0⟩):=hide (by unfold op0;rw [HH.out,Int.toNat_natCast])
  by_cases her:er=0
  ·subst her
   rw [if_neg (by decide)] at HOE HOD
   by_cases hcn:H.cn=n
   ·have hnw:IntKind.u64.wrap (n:Int)=(n:Int):=by rw [IntKind.wrap_u64];omega
    have hni:((H.cn:Int) !=(n:Int))=false:=by simp [hcn]
    have HOE2:Hid (xE=if fnE D (op0 D a)≠0 then fnE D (op0 D a) else bgE D (opF D a)):=hide (by rw [HOE.out,if_neg (by omega)])
    have HOD2:Hid (xD=if fnE D (op0 D a)≠0 then D else bgD D (opF D a)):=hide (by rw [HOD.out,if_neg (by omega)])
    go_enter Tryz.func29,Tryz.ntmps29
    go_upto_region 10 with (first
     | (go_at_call 48;(with_reducible refine KF.out.mono ?_);rintro e w2 ⟨rfl,rfl⟩)
     | (go_at_call 51;(with_reducible refine KR.out.mono ?_);rintro e w2 ⟨rfl,hx2⟩;unfold Hd.cs;have HRB:=hide (Rw.new w2 79 H.cs);have c0:=HRB.out.cell (i:=0) rfl;have c1:=HRB.out.cell (i:=1) rfl;have c2:=HRB.out.cell (i:=2) rfl;have c3:=HRB.out.cell (i:=3) rfl;have c4:=HRB.out.cell (i:=4) rfl;have c5:=HRB.out.cell (i:=5) rfl;unfold Hd.cs at c0 c1 c2 c3 c4 c5;have HX2:=hide (hx2.trans (Ext.alloc w2 (.cells H.cs.toArray 79)));clear hx2))
    obtain ⟨w3,hw3⟩:∃w3,w2.alloc (.cells #[.int .u64 (H.ep:Int), .int .u64 (H.old:Int), .int .u64 (H.st:Int), .int .u64 (H.fi:Int), .int .u64 (H.ck:Int), .int .u64 (n:Int)] 79)=w3:=⟨_,rfl⟩
    have HX3:Hid (Ext w w3):=hide (by rw [← hw3,← hcn];exact HX2.out)
    have hsz:w2.heap.size + 1=w3.heap.size:=by rw [← hw3];simp
    obtain ⟨q,HQ⟩:∃q,Hid (w3.heap.size=q):=⟨_,hide rfl⟩
    rw [hw3,hsz,HQ.out]
    have HL0:Hid (LgAt w0 (w3.alloc (.cells #[.pointer (some ⟨g,0,none⟩), .int .i64 (a:Int), .int .u64 (H.ep:Int), .int .u64 (H.old:Int), .int .u64 (H.st:Int), .int .u64 (H.fi:Int), .int .u64 (H.ck:Int), .int .u64 (n:Int), .int .u64 0, .slice none 0 0, .int .i64 0] 84)) ⟨q,g,gd,gn,A,c, .slice none 0 0⟩ D ⟨a,H,0, [],0⟩):=hide (by
     refine ⟨(HX0.out.trans HX3.out).trans (Ext.alloc _ _),(HD.out.ext HX3.out).ext (Ext.alloc _ _), ?_,Own.nil _ _,by rw [← HQ.out];exact (HX0.out.trans HX3.out).size⟩
     rw [← HQ.out,← hcn]
     exact Rw.new w3 84 (logC g (.slice none 0 0) ⟨a,H,0, [],0⟩))
    have HX4:Hid (Ext w (w3.alloc (.cells #[.pointer (some ⟨g,0,none⟩), .int .i64 (a:Int), .int .u64 (H.ep:Int), .int .u64 (H.old:Int), .int .u64 (H.st:Int), .int .u64 (H.fi:Int), .int .u64 (H.ck:Int), .int .u64 (n:Int), .int .u64 0, .slice none 0 0, .int .i64 0] 84))):=hide (HX3.out.trans (Ext.alloc _ _))
    obtain ⟨w4,hw4⟩:∃w4,w3.alloc (.cells #[.pointer (some ⟨g,0,none⟩), .int .i64 (a:Int), .int .u64 (H.ep:Int), .int .u64 (H.old:Int), .int .u64 (H.st:Int), .int .u64 (H.fi:Int), .int .u64 (H.ck:Int), .int .u64 (n:Int), .int .u64 0, .slice none 0 0, .int .i64 0] 84)=w4:=⟨_,rfl⟩
    rw [hw4] at HL0 HX4 ⊢
    have HQW:Hid (w.heap.size≤q):=hide (by rw [← HQ.out];exact HX3.out.size)
    have HOK0:Hid ((⟨a,H,0, [],0⟩:Lg).Ok D):=hide ⟨HHO.out,⟨by show 4≤H.cn;omega,by show H.cn≤4096;omega⟩,by show a + 1 + H.cn≤_;omega,by show 0 < _;decide,by show ([]:List UInt8).length < _;decide,by show 0 < _;decide⟩
    have KFN:=hide (find_any HL0.out HOK0.out b hfi hT)
    rw [HH0.out] at HOE2 HOD2
    have HOF:Hid (opF D a=fnL D ⟨a,H,0, [],0⟩):=hide (by unfold opF;rw [HH0.out])
    rw [HOF.out] at HOE2 HOD2
    obtain ⟨fe,HFE⟩:∃fe,Hid (fnE D ⟨a,H,0, [],0⟩=fe):=⟨_,hide rfl⟩
    rw [HFE.out] at HOE2 HOD2
    have hpen:=hp
    have HPO:Hid (D.pen.length < 800000∧D.ops < 800000):=hide ⟨hp,ho⟩
    have HFI:=hide hfi
    have HST:=hide hst
    unfold FnPost at KFN
    rw [HFE.out] at KFN
    clear c0 c1 c2 c3 c4 c5 hw3 hw4 hsz hfi hst hp ho hpen h b hx0 hmx h1 h2 i5 hnw hni
    by_cases hfe:fe=0
    ·subst hfe
     rw [if_neg (by decide)] at HOE2 HOD2
     obtain ⟨f1,f2⟩:=fn_ok HFE.out HFI.out (HOK0.out.cn.2)
     have HTL:=hide f2
     have HOK1:Hid ((fnL D ⟨a,H,0, [],0⟩).Ok D):=hide ⟨HHO.out,HOK0.out.cn,HOK0.out.at_,f1,by show (fnTail D _).length < _;omega,by show 0 < _;decide⟩
     obtain ⟨L1,HL1⟩:∃L1,Hid (fnL D ⟨a,H,0, [],0⟩=L1):=⟨_,hide rfl⟩
     have HST1:Hid (L1.hd.st < 1152921504606846976):=hide (by rw [← HL1.out];exact HST.out)
     have HTL1:Hid (L1.tail.length≤480):=hide (by rw [← HL1.out];exact HTL.out)
     rw [HL1.out] at HOK1 HOE2 HOD2 KFN HOF
     have HOL:Hid (opL D a=nextL L1):=hide (by unfold opL;rw [HOF.out])
     have HTT:=hide hT
     clear f1 f2 hT
     obtain ⟨be,HBE⟩:∃be,Hid (bgE D L1=be):=⟨_,hide rfl⟩
     obtain ⟨D1,HD1⟩:∃D1,Hid (bgD D L1=D1):=⟨_,hide rfl⟩
     rw [HBE.out] at HOE2
     rw [HD1.out] at HOD2
     have KBG:Hid (∀W tv,LgAt w0 W ⟨q,g,gd,gn,A,c,tv⟩ D L1→Calls Tryz.prog 53 #[.pointer (some ⟨q,0,none⟩)] W (LPost w0 W ⟨q,g,gd,gn,A,c,tv⟩ (.int .i64 be) D1 (nextL L1))):=hide (fun W tv hl=>by
      have k:=begin_any hl HOK1.out HB.out HPO.out.1 HPO.out.2 HTL1.out HST1.out HTT.out
      rw [HBE.out,HD1.out] at k
      exact k)
     by_cases hbe:be=0
     ·have HBE2:Hid (xE=0∧xD=D1):=hide ⟨HOE2.out.trans hbe,HOD2.out⟩
      subst hbe
      go_wp2_with (first
       | (go_at_call 52;(with_reducible refine KFN.out.mono ?_);rintro e w5 ⟨rfl,ha5,hl5⟩;obtain ⟨tv,hl5,ht5⟩:=hl5 rfl;have HL5:=hide hl5;have HT5:=hide ht5;have HX5:=hide (HX4.out.alt ha5 HQW.out);have HS5:=hide (Nat.le_trans HX4.out.size (Nat.le_refl _));clear ha5 hl5 ht5)
       | (go_at_call 53;(with_reducible refine (KBG.out w5 tv HL5.out).mono ?_);rintro e w6 ⟨X6,rfl,hl6,hf6,hn6⟩;have HL6:=hide hl6;have HF6:=hide hf6;have HN6:=hide hn6;clear hl6 hf6 hn6))
      go_ret2
      have hq6:X6.q=q:=HN6.out.q
      have ht:∀k,tv.ownBlock=some k→w.heap.size≤k:=fun k hk=>Nat.le_trans HX4.out.size (HT5.out k hk)
      have hdf:=Lfr.dfr (g:=g) (gd:=gd) (gn:=gn) (A:=A) HX5.out rfl rfl rfl rfl HQW.out ht HF6.out
      obtain ⟨hnw,htv⟩:=Bk.Later.newer (A:=A) (L:=nextL L1) HX5.out rfl HQW.out ht HN6.out HL6.out
      rw [HBE2.out.1,HBE2.out.2,HOL.out]
      exact ⟨fun _=>⟨X6,by rw [hq6];rfl,HL6.out,HN6.out.g,HN6.out.gd,HN6.out.gn,hdf,hnw,by rw [hq6];exact HQW.out,htv⟩,fun h=>absurd rfl h⟩
     ·have HBE2:Hid (xE=be∧xD=D1):=hide ⟨HOE2.out,HOD2.out⟩
      have hee:(be !=0)=true:=by simpa using hbe
      have HBN:=hide hbe
      clear hbe
      go_wp2_with (first
       | (go_at_call 52;(with_reducible refine KFN.out.mono ?_);rintro e w5 ⟨rfl,ha5,hl5⟩;obtain ⟨tv,hl5,ht5⟩:=hl5 rfl;have HL5:=hide hl5;have HT5:=hide ht5;have HX5:=hide (HX4.out.alt ha5 HQW.out);clear ha5 hl5 ht5)
       | (go_at_call 53;(with_reducible refine (KBG.out w5 tv HL5.out).mono ?_);rintro e w6 ⟨X6,rfl,hl6,hf6,hn6⟩;have HL6:=hide hl6;have HF6:=hide hf6;have HN6:=hide hn6;clear hl6 hf6 hn6))
      go_ret2
      have ht:∀k,tv.ownBlock=some k→w.heap.size≤k:=fun k hk=>Nat.le_trans HX4.out.size (HT5.out k hk)
      have hdf:=Lfr.dfr (g:=g) (gd:=gd) (gn:=gn) (A:=A) HX5.out rfl rfl rfl rfl HQW.out ht HF6.out
      obtain ⟨hnw,htv⟩:=Bk.Later.newer (A:=A) (L:=nextL L1) HX5.out rfl HQW.out ht HN6.out HL6.out
      have hdk:=HL6.out.disk
      rw [HN6.out.g,HN6.out.gd,HN6.out.gn] at hdk
      rw [HBE2.out.1,HBE2.out.2]
      exact OPost.no HBN.out ⟨X6.A,X6.c,rfl,hdk,hdf,hnw⟩
    ·have HE:Hid (xE=fe∧xD=D):=hide (by rw [HOE2.out,HOD2.out,if_pos hfe,if_pos hfe];exact ⟨rfl,rfl⟩)
     have hee:(fe !=0)=true:=by simpa using hfe
     have HFE2:=hide hfe
     clear hfe
     go_wp2_with (go_at_call 52;(with_reducible refine KFN.out.mono ?_);rintro e w5 ⟨rfl,ha5,-⟩;have HX5:=hide (HX4.out.alt ha5 HQW.out);clear ha5)
     go_ret2
     rw [HE.out.1,HE.out.2]
     exact OPost.no HFE2.out (DPost.same HD.out HX5.out rfl)
   ·have HE:Hid (xE=3∧xD=D):=hide (by rw [HOE.out,HOD.out,if_pos (by omega),if_pos (by omega)];exact ⟨rfl,rfl⟩)
    have hnw:IntKind.u64.wrap (n:Int)=(n:Int):=by rw [IntKind.wrap_u64];omega
    have hni:((H.cn:Int) !=(n:Int))=true:=by simp;omega
    clear h b hx0 hf hmx hp ho hT h1 h2 i0 i4 i5 hfi hst hcn
    go_enter Tryz.func29,Tryz.ntmps29
    go_wp2_with (first
     | (go_at_call 48;(with_reducible refine KF.out.mono ?_);rintro e w2 ⟨rfl,rfl⟩)
     | (go_at_call 51;(with_reducible refine KR.out.mono ?_);rintro e w2 ⟨rfl,hx2⟩;unfold Hd.cs;have c5:=(Rw.new w2 79 H.cs).cell (i:=5) rfl;unfold Hd.cs at c5;have HX2:=hide (hx2.trans (Ext.alloc w2 (.cells H.cs.toArray 79)));clear hx2))
    go_ret2
    rw [HE.out.1,HE.out.2]
    exact OPost.no (by decide) (DPost.same HD.out HX2.out rfl)
  ·have HE:Hid (xE=er∧xD=D):=hide (by rw [HOE.out,HOD.out,if_pos her,if_pos her];exact ⟨rfl,rfl⟩)
   have hee:(er !=0)=true:=by simpa using her
   have HER2:=hide her
   clear h b hx0 hf hmx hp ho hT h1 h2 i0 i4 i5 hfi hst her
   go_enter Tryz.func29,Tryz.ntmps29
   go_wp2_with (first
    | (go_at_call 48;(with_reducible refine KF.out.mono ?_);rintro e w2 ⟨rfl,rfl⟩)
    | (go_at_call 51;(with_reducible refine KR.out.mono ?_);rintro e w2 ⟨rfl,hx2⟩;unfold Hd.cs;have HX2:=hide (hx2.trans (Ext.alloc w2 (.cells H.cs.toArray 79)));clear hx2))
   go_ret2
   rw [HE.out.1,HE.out.2]
   exact OPost.no HER2.out (DPost.same HD.out HX2.out rfl)
 ·have HE:Hid (opE D at_ count=1∧opD D at_ count=D):=hide (by unfold opE opD;rw [hf];exact ⟨rfl,rfl⟩)
  rw [hf] at KF
  rw [HE.out.1,HE.out.2]
  clear h b hx0 hf hmx hp ho hT h1 h2
  go_enter Tryz.func29,Tryz.ntmps29
  go_wp2_with (go_at_call 48;(with_reducible refine KF.out.mono ?_);rintro e w2 ⟨rfl,rfl⟩)
  go_ret2
  exact OPost.no (by decide) (DPost.same HD.out (Ext.refl _) rfl)
end
theorem run_catN (w:World) (base ty:Nat) (v:Value) (l m:List UInt8) (A:Option Addr) (c:Nat) (hown:Own w base v l) (hr:Rd w A m) (hbase:base≤w.heap.size) (hlen:l.length + m.length≤140737488355328):
  ∃v' w',(Builtin.append_ #[22,22] ty #[v, .slice A m.length c]).run Tryz.prog w= .ok v' w'∧Own w' base v' (l ++ m)∧w.grownBy w' v.ownBlock∧(v'.ownBlock=v.ownBlock∨∀k,v'.ownBlock=some k→w.heap.size≤k):=by
 obtain ⟨i0,hi,hz0,hz1,hz2⟩:=info_parts info_u8
 rcases A with _ | a
 ·have hm:m= []:=by
   cases m with
   | nil=>rfl
   | cons x xs=>obtain ⟨_,_,hA,_⟩:=hr (by simp);cases hA
  subst hm
  refine ⟨v,w,run_append_from_nil w base _ ty _ i0 1 Tryz.underlying22 hi v _ _ hown c,by rw [List.append_nil];exact hown,⟨rfl,rfl,rfl,Nat.le_refl _,fun _ _ _=>rfl⟩, .inl rfl⟩
 ·have hc:∀j u,(bs m)[j]? =some u→w.cell? (a.add j)=some u:=by
   intro j u hu
   by_cases hn:m= []
   ·subst hn;simp [bs] at hu
   ·exact hr.cells rfl hn j u hu
  obtain ⟨v',w',hrun,h2,h3,_,h5⟩:=run_append_own_at (P:=Tryz.prog) w base 22 ty 5 i0 _ 1 1 Tryz.underlying22 hi hz0 hz1 hz2 rfl (by decide) v _ _ hown a m.length c (bs m) (by rw [bs_length];simp) hc (bs_one m)
   (by unfold maxLen;omega) (by omega) hbase
  refine ⟨v',w',hrun, ?_,h3, ?_⟩
  ·unfold Own
   rw [bs_append,List.length_append]
   exact h2
  ·rcases h5 with h5 | h5
   ·exact .inl h5
   ·exact .inr fun k hk=>by rw [h5] at hk;injection hk with hk;omega
theorem step_givesV {P:Program} {ops:Array Oper} {o:Oper} {a:Act} {w w':World} {x:Value} {K:Act→World→Prop} {Q:Exit→Act→World→Prop} {E:Prop} (h:gives P o a w fun v w2=>v=x∧w2=w') (hgd:o.guard=none) (hK:K (a.put o.dst x) w'):
  if Region.wanted o (yielded ops a.tmps)=true then o.wp P a w K Q else E:=by
 rw [if_pos (by simp [Region.wanted,hgd])]
 exact wp_of_gives h fun v w2 ⟨hv,hw⟩=>by subst hv hw;exact hK
def be2 (n:Nat):List UInt8:=(be64 (n:Int)).drop 6
theorem be2_length (n:Nat):(be2 n).length=2:=rfl
def moreL (L:Lg) (p:List UInt8):Lg:= { L with tail:=L.tail ++ p }
section
variable {w0 w w1:World} {X:Bk} {D D':Dk} {L L':Lg} {r:Value} {e:Ending} {w':World}
theorem LgAt.grow (h:LgAt w0 w X D L) {v':Value} {w1:World} {m:List UInt8} (ho:Own w1 w0.heap.size v' (L.tail ++ m)) (hg:w.grownBy w1 X.tv.ownBlock) (hn:v'.ownBlock=X.tv.ownBlock∨∀k,v'.ownBlock=some k→w.heap.size≤k):
  LgAt w0 (w1.setCell ⟨X.q,9,none⟩ v') { X with tv:=v' } D (moreL L m)∧Lfr X w (w1.setCell ⟨X.q,9,none⟩ v')∧({ X with tv:=v' }:Bk).Later X w∧Rw w1 X.q 84 (logC X.g X.tv L):=by
 obtain ⟨⟨n1,n2,n3,n4⟩,n5⟩:=h.ne
 have hk:∀k,k < w.heap.size→X.tv.ownBlock≠some k→w1.heap[k]? =w.heap[k]? :=fun k hk hne=>hg.block k hk (fun e=>hne e.symm)
 have hblk:Rw w1 X.q 84 (logC X.g X.tv L):=(hk X.q h.blk.lt (fun e=>(n5 _ e).1 rfl)).trans h.blk
 have hx1:Ext w0 w1:=Below.grown h.ext hg h.ext.size (fun k hk=>(own_block h.tail k hk).1)
 have hd1:DiskAt w0.heap.size w1 X.g X.gd X.gn X.A X.c D:=h.disk.keep1 fun k hkk=>by
  rcases hkk with rfl | rfl | rfl | ⟨a,hA,rfl⟩
  ·exact hk _ h.disk.blk.lt (fun e=>(n5 _ e).2.1 rfl)
  ·exact hk _ h.disk.dur.lt (fun e=>(n5 _ e).2.2.1 rfl)
  ·exact hk _ h.disk.new.lt (fun e=>(n5 _ e).2.2.2.1 rfl)
  ·exact hk _ (own_base h.disk.pen a hA).2 (fun e=>(n5 _ e).2.2.2.2 a hA rfl)
 have ha:Alt X.q X.q w1 (w1.setCell ⟨X.q,9,none⟩ v'):=Alt.set
 refine ⟨⟨hx1.alt ha h.base,hd1.keep1 fun k hkk=>ha.2.2 k ?_ ?_,hblk.set 9 v',ho.keep1 fun k hk2=>ha.2.2 k (fun e=> ?_) (own_block ho k hk2).2.1,h.base⟩, ?_,⟨rfl,rfl,rfl,rfl,fun k hk2=> ?_⟩,hblk⟩
 ·rcases hkk with rfl | rfl | rfl | ⟨a,hA,rfl⟩
  ·exact Ne.symm n1
  ·exact Ne.symm n2
  ·exact Ne.symm n3
  ·exact n4 a hA
 ·rcases hkk with rfl | rfl | rfl | ⟨a,hA,rfl⟩
  ·exact hd1.blk.lt
  ·exact hd1.dur.lt
  ·exact hd1.new.lt
  ·exact (own_base hd1.pen a hA).2
 ·subst e
  exact own_apartR hblk (by decide) ho hk2.symm
 ·refine ⟨hg.os,hg.tape,hg.output,by simpa using hg.size,fun k hk2 hnh=> ?_⟩
  unfold Bk.has at hnh
  rw [Below.heap_setCell w1 ⟨X.q,9,none⟩ v' k (fun e=>hnh (.inl e))]
  exact hk k hk2 (fun e=>hnh (.inr (.inr (.inr (.inr (.inr e))))))
 ·unfold Bk.has at hk2 ⊢
  rcases hk2 with hh | hh | hh | hh | hh | hh
  ·exact .inl (.inl hh)
  ·exact .inl (.inr (.inl hh))
  ·exact .inl (.inr (.inr (.inl hh)))
  ·exact .inl (.inr (.inr (.inr (.inl hh))))
  ·exact .inl (.inr (.inr (.inr (.inr (.inl hh)))))
  ·rcases hn with hn | hn
   ·exact .inl (.inr (.inr (.inr (.inr (.inr (by rw [← hn];exact hh))))))
   ·exact .inr (hn k hh)
end
section
variable {w0 w w1:World} {X:Bk} {D D':Dk} {L L':Lg} {r:Value} {e:Ending} {w':World}
theorem Rd.lfr {P:Option Addr} {p:List UInt8} (h:Rd w P p) (hf:Lfr X w w') (hn:∀a,P=some a→¬X.has a.block):Rd w' P p:=fun h0=>by
 obtain ⟨b,off,rfl,hc⟩:=h h0
 refine ⟨b,off,rfl,fun j u hu=> ?_⟩
 have h1:=hc j u hu
 rw [← h1]
 exact World.cell?_of_block (a:=⟨b,off + j,none⟩) (hf.other b (World.block_lt_of_cell? w _ h1) (hn _ rfl))
def addL (L:Lg) (p:List UInt8):Lg:=moreL (moreL L (be2 p.length)) p
theorem add_any (h:LgAt w0 w X D L) (ok:L.Ok D) (P:Option Addr) (c n:Nat) (p:List UInt8) (hr:Rd w P p) (hn:p.length=n) (hl:n≤1200) (hP:∀a,P=some a→¬X.has a.block∧a.block < w.heap.size) (htl:L.tail.length < 500000000):
    Calls Tryz.prog 126 #[.pointer (some ⟨X.q,0,none⟩), .slice P n c] w (LPost w0 w X (.int .u64 (endOf L:Int)) D (addL L p)):=by
  have HL:=hide h
  have HTL:=hide htl
  have HR:=hide hr
  have HN:=hide hn
  have HP:=hide hP
  have KE:=hide (end_any h ok)
  have KU:Hid (∀W,Calls Tryz.prog 112 #[.int .u64 (n:Int)] W (Ret W (Bytes (be64 (n:Int))))):=hide (fun W=>uint_any (n:Int) W (by omega) (by omega))
  obtain ⟨q8,HQ8⟩:∃q8,Hid (be64 (n:Int)=q8):=⟨_,hide rfl⟩
  have HQ8L:Hid (q8.length=8):=hide (by rw [← HQ8.out];rfl)
  have HB2:Hid (be2 n=q8.drop 6):=hide (by unfold be2;rw [HQ8.out])
  rw [HQ8.out] at KU
  obtain ⟨en,HEN⟩:∃en:Nat,Hid (endOf L=en):=⟨_,hide rfl⟩
  rw [HEN.out] at KE ⊢
  have hnw:IntKind.u64.wrap (n:Int)=(n:Int):=by rw [IntKind.wrap_u64];omega
  have HNL:=hide hl
  clear h ok hr hn hP htl hl
  go_enter Tryz.func126,Tryz.ntmps126
  go_upto_region 3 with (first
    | (go_at_call 75;(with_reducible refine KE.out.mono ?_);rintro e w1 ⟨rfl,m1,rfl⟩)
    | (go_at_call 112;(with_reducible refine (KU.out _).mono ?_);rintro e w2 ⟨v2,rfl,hx2,A2,c2,rfl,hc2,hr2⟩;have HX2:Hid (Ext w w2):=hide (((Ext.refl w).drewN _).trans hx2);have HC2:=hide hc2;have HR2:=hide hr2;clear hc2 hr2 hx2))
  rw [HQ8L.out] at HC2 ⊢
  obtain ⟨b2,off2,u2,rfl,-,-⟩:=HR2.out.at (k:=0) (by rw [HQ8L.out];decide)
  have HL2:=hide (HL.out.ext_ HX2.out)
  have c9:=HL2.out.blk.cell (i:=9) rfl
  have hcc:¬c2=6:=by have:=HC2.out;omega
  have hcc2:6≤c2:=by have:=HC2.out;omega
  have HR6:Hid (Rd w2 (some ⟨b2,off2 + 6,none⟩) (q8.drop 6)):=hide (by have hd:=HR2.out.drop 6;rw [add_flat] at hd;exact hd)
  have HQ6:Hid ((q8.drop 6).length=2):=hide (by rw [List.length_drop,HQ8L.out])
  obtain ⟨q6,HQ6E⟩:∃q6,Hid (q8.drop 6=q6):=⟨_,hide rfl⟩
  rw [HQ6E.out] at HR6 HQ6 HB2
  obtain ⟨t1,HT1⟩:∃t1,Hid (L.tail ++ q6=t1):=⟨_,hide rfl⟩
  obtain ⟨n1,HN1⟩:∃n1,Hid (t1.length=n1):=⟨_,hide rfl⟩
  obtain ⟨t2,HT2⟩:∃t2,Hid ((L.tail ++ q6) ++ p=t2):=⟨_,hide rfl⟩
  obtain ⟨n2,HN2⟩:∃n2,Hid (t2.length=n2):=⟨_,hide rfl⟩
  have HT1L:Hid ((L.tail ++ q6).length < 600000000):=hide (by rw [List.length_append,HQ6.out];have:=HTL.out;omega)
  have hw6:IntKind.i64.wrap 6=6:=by decide
  go_region_law (first
    | (obtain ⟨v3,w3,hrun,ho3,hg3,hn3⟩:=run_catN w2.drew w0.heap.size 22 X.tv L.tail q6 (some ⟨b2,off2 + 6,none⟩) (c2 - 6) (HL2.out.tail.ext (Ext.drew _)) (HR6.out.ext (Ext.drew _)) (HL2.out.ext.size) (by rw [HQ6.out];have:=HTL.out;omega);
       rw [HQ6.out] at hrun;
       obtain ⟨A3,c3,hv3,-,-⟩:=ho3.bytes;rw [HT1.out,HN1.out] at hv3;subst hv3;
       have HG3:=hide (LgAt.grow (HL2.out.ext_ (Ext.drew _)) ho3 hg3 hn3);
       have c9b:=HG3.out.2.2.2.cell (i:=9) rfl;have f9b:=HG3.out.2.2.2.frozen 9;
       refine step_givesV (gives_append (s:= .tmp 17) (x:= .tmp 22) rfl (by rfl) (by rfl) hrun ⟨rfl,rfl⟩) rfl ?_;
       clear ho3 hg3 hn3))
  have HL4:=hide HG3.out.1
  have HF4:Hid (Lfr X w (w3.setCell ⟨X.q,9,none⟩ (.slice A3 n1 c3))):=hide ((Lfr.ext (HX2.out.trans (Ext.drew _))).trans HG3.out.2.1 (Bk.Later.refl _ _))
  have HN4:Hid (({ X with tv:= .slice A3 n1 c3 }:Bk).Later X w):=hide (HG3.out.2.2.1.up (HX2.out.trans (Ext.drew _)).size)
  obtain ⟨w4,hw4⟩:∃w4,w3.setCell ⟨X.q,9,none⟩ (.slice A3 n1 c3)=w4:=⟨_,rfl⟩
  rw [hw4] at HL4 HF4 ⊢
  have HR4:Hid (Rd w4 P p):=hide (HR.out.lfr HF4.out (fun a ha=>(HP.out a ha).1))
  have d9:=HL4.out.blk.cell (i:=9) rfl
  simp only at d9
  clear c9 c9b f9b hcc hcc2 hw6 hw4
  obtain ⟨v5,w5,hrun5,ho5,hg5,hn5⟩:=run_catN w4 w0.heap.size 22 (.slice A3 n1 c3) (L.tail ++ q6) p P c HL4.out.tail HR4.out HL4.out.ext.size (by rw [HN.out];have:=HT1L.out;have:=HNL.out;omega)
  rw [HN.out] at hrun5
  obtain ⟨A5,c5,hv5,-,-⟩:=ho5.bytes
  rw [HT2.out,HN2.out] at hv5
  subst hv5
  have HG5:=hide (LgAt.grow HL4.out ho5 hg5 hn5)
  have d9b:=HG5.out.2.2.2.cell (i:=9) rfl
  have f9b:=HG5.out.2.2.2.frozen 9
  simp only at d9b f9b
  have HRUN:=hide hrun5
  clear ho5 hg5 hn5 hrun5
  go_wp2_with ((with_reducible show wpList _ _ _ (⟨some 32,_,_,_,_,_⟩::_) _ _);refine wpList_gives (gives_append (s:= .tmp 30) (x:= .tmp 31) rfl rfl rfl HRUN.out ⟨rfl,rfl⟩) rfl ?_)
  go_ret
  refine ⟨{ X with tv:= .slice A5 n2 c5 },rfl, ?_,HF4.out.trans HG5.out.2.1 HN4.out,HN4.out.trans HG5.out.2.2.1 HF4.out.size⟩
  have e1:addL L p=moreL (moreL L q6) p:=by unfold addL;rw [HN.out,HB2.out]
  rw [e1]
  exact HG5.out.1
end
def apE (L:Lg) (n:Nat) (hold:Int):Int:=if n=0∨hold < 0 then 1 else if n > 1200 then 2 else if hold > roomOf L - 2 - (n:Int) then 9 else 0
def heldL (L:Lg) (hold:Int):Lg:= { L with held:=L.held + hold.toNat }
def apL (L:Lg) (p:List UInt8) (hold:Int):Lg:=if apE L p.length hold=0 then addL (heldL L hold) p else L
def apR (L:Lg) (p:List UInt8) (hold:Int):Value:= .tuple #[.int .u64 (if apE L p.length hold=0 then (endOf L:Int) else 0), .int .i64 (apE L p.length hold)]
section
variable {w0 w w1:World} {X:Bk} {D D':Dk} {L L':Lg} {r:Value} {e:Ending} {w':World}
theorem LPost.still (h:LgAt w0 w X D L) (hx:Ext w w') (he:e= .returned r):LPost w0 w X r D L e w':=⟨X,he,h.ext_ hx,Lfr.ext hx,Bk.Later.refl _ _⟩
theorem append_any (h:LgAt w0 w X D L) (ok:L.Ok D) (hs:L.hd.st < 576460752303423488) (P:Option Addr) (c n:Nat) (p:List UInt8) (hold:Int) (hr:Rd w P p) (hn:p.length=n) (hl:n≤140737488355328) (hP:∀a,P=some a→¬X.has a.block∧a.block < w.heap.size) (htl:L.tail.length < 500000000) (hh: -9223372036854775808≤hold∧hold < 9223372036854775808):
  Calls Tryz.prog 98 #[.pointer (some ⟨X.q,0,none⟩), .slice P n c, .int .i64 hold] w (LPost w0 w X (apR L p hold) D (apL L p hold)):=by
 have HL:=hide h
 have HOK:=hide ok
 obtain ⟨er,HER⟩:∃er,Hid (apE L n hold=er):=⟨_,hide rfl⟩
 have HAR:Hid (apR L p hold= .tuple #[.int .u64 (if er=0 then (endOf L:Int) else 0), .int .i64 er]):=hide (by unfold apR;rw [hn,HER.out])
 have HAL:Hid (apL L p hold=if er=0 then addL (heldL L hold) p else L):=hide (by unfold apL;rw [hn,HER.out])
 rw [HAR.out,HAL.out]
 by_cases h1:n=0∨hold < 0
 ·have he:er=1:=by rw [← HER.out];unfold apE;rw [if_pos h1]
  subst he
  rw [if_neg (by decide),if_neg (by decide)]
  by_cases h0:n=0
  ·subst h0
   clear h ok hs hr hn hl hP htl hh h1
   go_enter Tryz.func98,Tryz.ntmps98
   go_wp2
   go_ret2
   exact LPost.still HL.out (Ext.refl _) rfl
  ·have hh0:hold < 0:=by omega
   have hn0:((n:Int)==0)=false:=by simpa using h0
   clear h ok hs hr hn hl hP htl hh h1 h0
   go_enter Tryz.func98,Tryz.ntmps98
   go_wp2
   go_ret2
   exact LPost.still HL.out (Ext.refl _) rfl
 ·have hn0:((n:Int)==0)=false:=by simp;omega
  have hh0:¬hold < 0:=by omega
  by_cases h2:n > 1200
  ·have he:er=2:=by rw [← HER.out];unfold apE;rw [if_neg h1,if_pos h2]
   subst he
   rw [if_neg (by decide),if_neg (by decide)]
   have hni:(1200:Int) < (n:Int):=by omega
   clear h ok hs hr hn hl hP htl hh h1 h2
   go_enter Tryz.func98,Tryz.ntmps98
   go_wp2
   go_ret2
   exact LPost.still HL.out (Ext.refl _) rfl
  ·have hni:¬(1200:Int) < (n:Int):=by omega
   have KR:=hide (room_any h ok (by omega))
   have hrb: -3000000000000000000 < roomOf L∧roomOf L < 3000000000000000000:=by
    have e1:=endOf_lt ok
    have e2:=ok.held
    have e3:=ok.cn
    unfold roomOf;omega
   obtain ⟨rm,HRM⟩:∃rm,Hid (roomOf L=rm):=⟨_,hide rfl⟩
   rw [HRM.out] at KR hrb
   have hw1:IntKind.i64.wrap (rm - 2)=rm - 2:=by rw [IntKind.wrap_i64];omega
   have hw2:IntKind.i64.wrap (rm - 2 - (n:Int))=rm - 2 - (n:Int):=by rw [IntKind.wrap_i64];omega
   by_cases h3:hold > rm - 2 - (n:Int)
   ·have he:er=9:=by rw [← HER.out];unfold apE;rw [if_neg h1,if_neg h2,HRM.out,if_pos h3]
    subst he
    rw [if_neg (by decide),if_neg (by decide)]
    have h3i:rm - 2 - (n:Int) < hold:=h3
    clear h ok hs hr hn hl hP htl hh h1 h2 h3 hrb
    go_enter Tryz.func98,Tryz.ntmps98
    go_wp2_with (go_at_call 42;(with_reducible refine KR.out.mono ?_);rintro e w1 ⟨rfl,m1,rfl⟩)
    go_ret2
    exact LPost.still HL.out ((Ext.refl _).drewN _) rfl
   ·have he:er=0:=by rw [← HER.out];unfold apE;rw [if_neg h1,if_neg h2,HRM.out,if_neg h3]
    subst he
    rw [if_pos rfl,if_pos rfl]
    have h3i:¬rm - 2 - (n:Int) < hold:=by omega
    have c10:=h.blk.cell (i:=10) rfl
    have f10:=h.blk.frozen 10
    have hhe:=ok.held
    have hhw:IntKind.i64.wrap ((L.held:Int) + hold)=(L.held:Int) + hold:=by rw [IntKind.wrap_i64];omega
    have hhc:(L.held:Int) + hold=((L.held + hold.toNat:Nat):Int):=by omega
    have HHC:=hide hhc
    have HR:=hide hr
    have HN:=hide hn
    have HP:=hide hP
    have HTL:=hide htl
    have hn12:n≤1200:=by omega
    have HN12:=hide hn12
    obtain ⟨hs2,HHS⟩:∃hs2:Int,Hid ((L.held:Int) + hold=hs2):=⟨_,hide rfl⟩
    rw [HHS.out] at hhw
    have hhw2:wrap64 ((L.held:Int) + hold)=hs2:=by rw [← HHS.out];unfold wrap64;omega
    have HL1:Hid (∀m,LgAt w0 ((w.drewN m).setCell ⟨X.q,10,none⟩ (.int .i64 hs2)) X D (heldL L hold)):=hide (fun m=>(HL.out.ext_ ((Ext.refl w).drewN m)).put 10 (.int .i64 hs2) (heldL L hold) rfl (by rw [← HHS.out,HHC.out];rfl))
    have HF1:Hid (∀m,Lfr X w ((w.drewN m).setCell ⟨X.q,10,none⟩ (.int .i64 hs2))):=hide (fun m=>(Lfr.ext ((Ext.refl w).drewN m)).trans (Lfr.cell X _ 10 _) (Bk.Later.refl _ _))
    have HOK1:Hid ((heldL L hold).Ok D):=hide (by
     refine ⟨ok.hd,ok.cn,ok.at_,ok.sure,ok.tail, ?_⟩
     show L.held + hold.toNat < _
     have:=ok.cn.2
     have h5:roomOf L=((L.hd.st / 480 + L.hd.cn) * 480:Nat) - (endOf L:Int) - (L.held:Int):=rfl
     rw [HRM.out] at h5
     omega)
    have KA:Hid (∀m,Calls Tryz.prog 126 #[.pointer (some ⟨X.q,0,none⟩), .slice P n c] ((w.drewN m).setCell ⟨X.q,10,none⟩ (.int .i64 hs2)) (LPost w0 ((w.drewN m).setCell ⟨X.q,10,none⟩ (.int .i64 hs2)) X (.int .u64 (endOf L:Int)) D (addL (heldL L hold) p))):=hide (fun m=>
     add_any (HL1.out m) HOK1.out P c n p (HR.out.lfr (HF1.out m) (fun a ha=>(HP.out a ha).1)) HN.out HN12.out (fun a ha=>⟨(HP.out a ha).1,Nat.lt_of_lt_of_le (HP.out a ha).2 (HF1.out m).size⟩) HTL.out)
    clear h ok hs hr hn hl hP htl hh h1 h2 h3 hrb hhe hhc hn12
    go_enter Tryz.func98,Tryz.ntmps98
    go_wp2_with (first
     | (go_at_call 42;(with_reducible refine KR.out.mono ?_);rintro e w1 ⟨rfl,m1,rfl⟩)
     | (go_at_call 126;(with_reducible refine (KA.out m1).mono ?_);rintro e w2 hp2;have HP2:=hide hp2;obtain ⟨X2,rfl,-⟩:=hp2))
    go_ret2
    obtain ⟨X2,he2,hl2,hf2,hn2⟩:=HP2.out
    exact ⟨X2,rfl,hl2,(HF1.out m1).trans hf2 (Bk.Later.refl _ _),hn2.up (HF1.out m1).size⟩
end
section
variable {w0 w w1:World} {X:Bk} {D D':Dk} {L L':Lg} {r:Value} {e:Ending} {w':World}
theorem held_any (h:LgAt w0 w X D L):Calls Tryz.prog 103 #[.pointer (some ⟨X.q,0,none⟩)] w (Same w (.int .i64 (L.held:Int))):=by
 have c10:=h.blk.cell (i:=10) rfl
 clear h
 go_enter Tryz.func103,Tryz.ntmps103
 go_wp2
 go_ret
 exact ⟨rfl,rfl⟩
end
def flA (L:Lg) (k:Nat):Nat:=flo L.sure + 480 * k
def flP (L:Lg) (k:Nat):List UInt8:=partB L (flA L k) ((L.tail.drop (480 * k)).take 480)
def flS (L:Lg) (k:Nat):Int:=(secOf L (flA L k):Int)
def flW (L:Lg):Nat→Nat→Dk→Int×Dk
 | 0,_,D=>(0,D)
 | f + 1,k,D=>if L.tail.length≤480 * k then (0,D) else if wE D (flS L k) (flP L k)≠0 then (wE D (flS L k) (flP L k),wD D (flS L k) (flP L k)) else flW L f (k + 1) (wD D (flS L k) (flP L k))
def flZ (D:Dk) (L:Lg):Int×Dk:=flW L (L.tail.length) 0 D
def sureL (L:Lg):Lg:= { L with sure:=endOf L,tail:=L.tail.drop (flo L.tail.length) }
def flE (D:Dk) (L:Lg):Int:=if D.off=true then 8 else if L.sure=endOf L then 0 else if (flZ D L).1≠0 then (flZ D L).1 else sE (flZ D L).2
def flD (D:Dk) (L:Lg):Dk:=if D.off=true then D else if L.sure=endOf L then D else if (flZ D L).1≠0 then (flZ D L).2 else sD (flZ D L).2
def flL (D:Dk) (L:Lg):Lg:=if flE D L=0∧¬L.sure=endOf L then sureL L else L
theorem flW_end (L:Lg) (f k:Nat) (D:Dk) (h:L.tail.length≤480 * k):flW L f k D=(0,D):=by
 cases f with
 | zero=>rfl
 | succ f=>unfold flW;rw [if_pos h]
section
variable {w0 w w1:World} {X:Bk} {D D':Dk} {L L':Lg} {r:Value} {e:Ending} {w':World}
theorem flush_any (h:LgAt w0 w X D L) (ok:L.Ok D) (b:Bd D) (hp:D.pen.length < 500000) (ho:D.ops < 500000) (htl:L.tail.length < 100000000) (hT:Tab w0):Calls Tryz.prog 67 #[.pointer (some ⟨X.q,0,none⟩)] w (LPost w0 w X (.int .i64 (flE D L)) (flD D L) (flL D L)):=by
 have HL:=hide h
 have HOK:=hide ok
 have HT:=hide hT
 have KON:=hide (on_any h.disk)
 have c0:=h.blk.cell (i:=0) rfl
 cases hd:D.off with
 | true=>
  have HE:Hid (flE D L=8):=hide (by unfold flE;rw [hd];rfl)
  have HD:Hid (flD D L=D):=hide (by unfold flD;rw [hd];rfl)
  have HLL:Hid (flL D L=L):=hide (by unfold flL;rw [HE.out,if_neg (fun hh=>absurd hh.1 (by decide))])
  rw [HE.out,HD.out,HLL.out]
  rw [hd] at KON
  clear h ok b hp ho htl hT hd
  go_enter Tryz.func67,Tryz.ntmps67
  go_wp2_with (go_at_call 57;(with_reducible refine KON.out.mono ?_);rintro e w2 ⟨rfl,rfl⟩)
  go_ret
  exact LPost.still HL.out (Ext.refl _) rfl
 | false=>
  rw [hd] at KON
  have KE:=hide (fun (W:World) (hW:Ext w W)=>end_any (h.ext_ hW) ok)
  have c8:=h.blk.cell (i:=8) rfl
  by_cases hse:L.sure=endOf L
  ·have HE:Hid (flE D L=0):=hide (by unfold flE;rw [hd,if_neg (by decide),if_pos hse])
   have HD:Hid (flD D L=D):=hide (by unfold flD;rw [hd,if_neg (by decide),if_pos hse])
   have HLL:Hid (flL D L=L):=hide (by unfold flL;rw [if_neg (fun hh=>hh.2 hse)])
   rw [HE.out,HD.out,HLL.out]
   rw [← hse] at KE
   clear h ok b hp ho htl hT hd hse
   go_enter Tryz.func67,Tryz.ntmps67
   go_upto_region 5 with (go_at_call 57;(with_reducible refine KON.out.mono ?_);rintro e w2 ⟨rfl,rfl⟩)
   go_quiet ((go_at_call 75;exact Calls.quiet_of (KE.out _ ((Ext.refl _).drewN _))))
   go_wp2
   go_ret
   exact LPost.still HL.out ((Ext.refl _).drewN _) rfl
  ·have HFE:Hid (flE D L=if (flZ D L).1≠0 then (flZ D L).1 else sE (flZ D L).2):=hide (by unfold flE;rw [hd,if_neg (by decide),if_neg hse])
   have HFD:Hid (flD D L=if (flZ D L).1≠0 then (flZ D L).2 else sD (flZ D L).2):=hide (by unfold flD;rw [hd,if_neg (by decide),if_neg hse])
   have HSE:=hide hse
   have HFLL:Hid (flL D L=if flE D L=0 then sureL L else L):=hide (by
    unfold flL
    by_cases h0:flE D L=0
    ·rw [if_pos ⟨h0,hse⟩,if_pos h0]
    ·rw [if_neg (fun hh=>h0 hh.1),if_neg h0])
   obtain ⟨zE,HZE⟩:∃zE,Hid (flE D L=zE):=⟨_,hide rfl⟩
   obtain ⟨zD,HZD⟩:∃zD,Hid (flD D L=zD):=⟨_,hide rfl⟩
   obtain ⟨zL,HZL⟩:∃zL,Hid (flL D L=zL):=⟨_,hide rfl⟩
   obtain ⟨zz,HZZ⟩:∃zz,Hid (flZ D L=zz):=⟨_,hide rfl⟩
   rw [HZE.out,HZZ.out] at HFE
   rw [HZD.out,HZZ.out] at HFD
   rw [HZL.out,HZE.out] at HFLL
   rw [HZE.out,HZD.out,HZL.out]
   have hel:=endOf_lt ok
   have HEL:=hide hel
   obtain ⟨en,HEN⟩:∃en:Nat,Hid (endOf L=en):=⟨_,hide rfl⟩
   rw [HEN.out] at KE HEL
   have hne:((L.sure:Int)==(en:Int))=false:=by
    have h1:=HEN.out
    simp
    omega
   obtain ⟨n,HN⟩:∃n,Hid (L.tail.length=n):=⟨_,hide rfl⟩
   have HNL:Hid (n < 100000000):=hide (by rw [← HN.out];exact htl)
   have HZ0:Hid (flW L (n - 0) 0 D=zz):=hide (by rw [← HZZ.out,← HN.out];rfl)
   have HB:Hid (Bd D∧D.pen.length≤500000 + 0∧D.ops≤500000 + 0):=hide ⟨b,by omega,by omega⟩
   obtain ⟨dl,HDL⟩:∃dl,Hid (D.dur.length=dl):=⟨_,hide rfl⟩
   have HL0:=HL
   clear h ok b hp ho htl hT hd hse hel
   go_enter Tryz.func67,Tryz.ntmps67
   go_upto_region 5 with (go_at_call 57;(with_reducible refine KON.out.mono ?_);rintro e w2 ⟨rfl,rfl⟩)
   go_quiet ((go_at_call 75;exact Calls.quiet_of (KE.out _ ((Ext.refl _).drewN _))))
   go_wp2
   clear hne c8 c0
   go_loopw [3] (fun x wr=>∃(k:Nat) (X':Bk) (D':Dk),480 * k < n + 480∧x= .int .i64 ((480 * k:Nat):Int)∧Hid (LgAt w0 wr X' D' L)∧Hid (Lfr X w wr)∧Hid (X'.Later X w)∧Hid (flW L (n - k) k D' =zz)∧Hid (Bd D'∧D'.pen.length≤500000 + k∧D'.ops≤500000 + k)∧Hid (D'.dur.length=dl)) (fun x _=>n + 480 - (intOf x).toNat)
   case atStart=>exact ⟨0,X,D,by omega,rfl,hide (HL0.out.ext_ ((Ext.refl _).drewN _)),hide (Lfr.ext ((Ext.refl _).drewN _)),hide (Bk.Later.refl _ _),HZ0,HB,HDL⟩
   case round=>
    obtain ⟨k,X1,D1,hk,rfl,HL1,HF1,HN1,HW1,HB1,HD1⟩:=hrel
    have hq1:X1.q=X.q:=HN1.out.q
    obtain ⟨At,ct,htv,hct,hrt⟩:=HL1.out.tail.bytes
    have HTV:=hide htv
    rw [HN.out] at hct
    have HRT:=hide hrt
    have HCT:=hide hct
    have k9:=HL1.out.blk.cell (i:=9) rfl
    rw [hq1,htv,HN.out] at k9
    have k0:=HL1.out.blk.cell (i:=0) rfl
    rw [hq1] at k0
    have HQ1:=hide hq1
    have HOK1:Hid (L.Ok D1):=hide (HOK.out.onD (by rw [HD1.out,HDL.out]))
    obtain ⟨fr,HFR⟩:∃fr,Hid (480 * k=fr):=⟨_,hide rfl⟩
    rw [HFR.out] at hk ⊢
    clear htv hct hrt hq1
    by_cases hfn:fr < n
    ·have hfi:(fr:Int) < (n:Int):=by omega
     obtain ⟨b1,off1,u1,hAt,-,-⟩:=HRT.out.at (k:=0) (by rw [HN.out];omega)
     subst hAt
     obtain ⟨t,HTT⟩:∃t,Hid ((if fr + 480 < n then fr + 480 else n)=t):=⟨_,hide rfl⟩
     have HTE:Hid (t≤n∧fr≤t∧t - fr≤480):=hide (by have:=HTT.out;split at this <;> omega)
     have hwf:IntKind.i64.wrap ((fr:Int) + 480)=((fr + 480:Nat):Int):=by rw [IntKind.wrap_i64];have:=HNL.out;omega
     have hmin:∀(inst:Decidable ((n:Int) < (fr:Int) + 480)), @ite Int ((n:Int) < (fr:Int) + 480) inst (n:Int) ((fr:Int) + 480)=(t:Int):=by intro inst;have:=HTT.out;split at this <;> split <;> omega
     have KTA:Hid (∀W,Ext wr W→Calls Tryz.prog 88 #[.pointer (some ⟨X.q,0,none⟩)] W (Same W (.int .u64 (flo L.sure:Int)))):=hide (fun W hW=>by have k:=tailAt_any (HL1.out.ext_ hW) HOK1.out;rw [HQ1.out] at k;exact k)
     obtain ⟨a,HAA⟩:∃a,Hid (flA L k=a):=⟨_,hide rfl⟩
     obtain ⟨fl,HFL⟩:∃fl,Hid (flo L.sure=fl):=⟨_,hide rfl⟩
     have HAF:Hid (a=fl + fr):=hide (by rw [← HAA.out,← HFL.out,← HFR.out];rfl)
     have HFLL2:Hid (fl < 1152921504606846976):=hide (by rw [← HFL.out];have h1:=flo_le L.sure;have h2:=HOK.out.sure;omega)
     have hw1:IntKind.u64.wrap (fr:Int)=(fr:Int):=by rw [IntKind.wrap_u64];have:=HNL.out;omega
     have hw2:IntKind.u64.wrap ((fl:Int) + (fr:Int))=(a:Int):=by rw [IntKind.wrap_u64];have:=HAF.out;have:=HFLL2.out;have:=HNL.out;omega
     obtain ⟨pp,HPP⟩:∃pp,Hid ((L.tail.drop fr).take 480=pp):=⟨_,hide rfl⟩
     have HPL:Hid (pp.length=t - fr):=hide (by rw [← HPP.out,List.length_take,List.length_drop,HN.out];have:=HTT.out;split at this <;> omega)
     have HRP:Hid (Rd wr (some ⟨b1,off1 + fr,none⟩) pp):=hide (by
      have h1:=(HRT.out.drop fr).take 480
      rw [add_flat,HPP.out] at h1
      exact h1)
     obtain ⟨e2,HE2⟩:∃e2,Hid (wE D1 (flS L k) (flP L k)=e2):=⟨_,hide rfl⟩
     obtain ⟨D2,HD2⟩:∃D2,Hid (wD D1 (flS L k) (flP L k)=D2):=⟨_,hide rfl⟩
     have KGW:Hid (∀W,Ext wr W→Calls Tryz.prog 89 #[.pointer (some ⟨X.q,0,none⟩), .int .u64 (a:Int), .slice (some ⟨b1,off1 + fr,none⟩) (t - fr) (ct - fr)] W (LPost w0 W X1 (.int .i64 e2) D2 L)):=hide (fun W hW=>by
      have k1:=gwrite_any (HL1.out.ext_ hW) HOK1.out HB1.out.1 a (by have:=HAF.out;have:=HFLL2.out;have:=HNL.out;omega) (some ⟨b1,off1 + fr,none⟩) (ct - fr) (t - fr) pp (HRP.out.ext hW) HPL.out HTE.out.2.2 HT.out
      rw [HQ1.out] at k1
      rw [← HE2.out,← HD2.out]
      unfold flP flS
      rw [HAA.out,HFR.out,HPP.out]
      exact k1)
     have HWN:Hid (zz=if e2≠0 then (e2,D2) else flW L (n - (k + 1)) (k + 1) D2):=hide (by
      rw [← HW1.out,show n - k=(n - (k + 1)) + 1 by have:=HFR.out;omega]
      rw [flW,if_neg (by rw [HN.out,HFR.out];omega),HE2.out,HD2.out])
     have HBD2:=hide (wD_bd HB1.out.1 (by have h1:=HB1.out.2.1;have:=HNL.out;have:=HFR.out;omega) (by have h1:=HB1.out.2.2;have:=HNL.out;have:=HFR.out;omega) (flS L k) (flP L k))
     rw [HD2.out] at HBD2
     rw [HFL.out] at KTA
     go_upto_region 11 with fail
     have hs1:fr≤t:=HTE.out.2.1
     have hs2:(fr:Int)≤(t:Int):=by omega
     have hs3:t≤ct:=by have:=HTE.out.1;have:=HCT.out;omega
     have hs4:(t:Int)≤(ct:Int):=by omega
     have hs5:¬ct=fr:=by have:=HCT.out;omega
     clear hmin hwf hfi
     go_region_law (first
      | (go_simp;go_at_call 88;(with_reducible refine (KTA.out _ (Ext.drew _)).mono ?_);rintro e w4 ⟨rfl,rfl⟩)
      | (go_simp;go_at_call 89;(with_reducible refine (KGW.out _ (Ext.drew _)).mono ?_);rintro e w5 hp5;have HP5:=hide (LPost.trans HF1.out HN1.out (LPost.pre (Ext.drew _) hp5));obtain ⟨X5',rfl,-⟩:=hp5))
     all_goals
      clear hw1 hw2 hs1 hs2 hs3 hs4 hs5
      by_cases he2:e2=0
      ·subst he2
       have HWN2:Hid (flW L (n - (k + 1)) (k + 1) D2=zz):=hide (by rw [HWN.out,if_neg (by decide)])
       obtain ⟨X5,-,HL5,HF5,HN5⟩:=HP5.out
       have hwf:IntKind.i64.wrap ((fr:Int) + 480)=((480 * (k + 1):Nat):Int):=by rw [IntKind.wrap_i64];have:=HNL.out;have:=HFR.out;omega
       have hkk:480 * (k + 1) < n + 480:=by have:=HFR.out;omega
       have HMS:Hid (n + 480 - 480 * (k + 1) < n + 480 - fr):=hide (by have:=HFR.out;omega)
       obtain ⟨f2,HF2⟩:∃f2,Hid (480 * (k + 1)=f2):=⟨_,hide rfl⟩
       rw [HF2.out] at hwf
       go_wp2
       refine ⟨⟨k + 1,X5,D2,hkk,by rw [HF2.out],hide HL5,hide HF5,hide HN5,HWN2,hide ⟨HBD2.out.1,by have h1:=HBD2.out.2.1;have h2:=HB1.out.2.1;omega,by have h1:=HBD2.out.2.2.1;have h2:=HB1.out.2.2;omega⟩,hide (by rw [HBD2.out.2.2.2,HD1.out])⟩, ?_⟩
       show n + 480 - ((f2:Int)).toNat < n + 480 - ((fr:Int)).toNat
       have h1:=HMS.out
       rw [HF2.out] at h1
       omega
      ·have HZ2:Hid (zz=(e2,D2)):=hide (by rw [HWN.out,if_pos he2])
       have HFE2:Hid (zE=e2):=hide (by rw [HFE.out,HZ2.out];exact if_pos he2)
       have HFD2:Hid (zD=D2):=hide (by rw [HFD.out,HZ2.out];exact if_pos he2)
       have HFL2:Hid (zL=L):=hide (by rw [HFLL.out,HFE2.out,if_neg he2])
       have hee2:(e2 !=0)=true:=by simpa using he2
       clear he2
       go_wp2
       go_ret
       rw [HFE2.out,HFD2.out,HFL2.out]
       exact HP5.out
    ·have hfi:¬(fr:Int) < (n:Int):=by omega
     have HZ2:Hid (zz=(0,D1)):=hide (by rw [← HW1.out];exact flW_end L _ k D1 (by rw [HN.out,HFR.out];omega))
     obtain ⟨e3,HE3⟩:∃e3,Hid (sE D1=e3):=⟨_,hide rfl⟩
     obtain ⟨D3,HD3⟩:∃D3,Hid (sD D1=D3):=⟨_,hide rfl⟩
     have HFE2:Hid (zE=e3):=hide (by rw [HFE.out,HZ2.out,← HE3.out];exact if_neg (fun hh=>hh rfl))
     have HFD2:Hid (zD=D3):=hide (by rw [HFD.out,HZ2.out,← HD3.out];exact if_neg (fun hh=>hh rfl))
     have KSY:=hide (gsync_any HL1.out HB1.out.1)
     rw [HE3.out,HD3.out] at KSY
     have HOK3:Hid (L.Ok D3):=hide (HOK1.out.onD (by rw [← HD3.out];exact (sD_bd HB1.out.1 (by have h1:=HB1.out.2.2;have:=HNL.out;have:=HFR.out;omega)).2.2.2))
     rw [HFE2.out] at HFLL
     by_cases he3:e3=0
     ·subst he3
      have HFL3:Hid (zL=sureL L):=hide (by rw [HFLL.out,if_pos rfl])
      obtain ⟨wh,HWHL⟩:∃wh,Hid (flo n=wh):=⟨_,hide rfl⟩
      go_upto_region 17 with (go_at_call 47;(with_reducible refine KSY.out.mono ?_);rintro e w2 hp2;have HP2:=hide (LPost.trans HF1.out HN1.out hp2);obtain ⟨X2',rfl,-⟩:=hp2)
      obtain ⟨X2,-,HL2,HF2,HN2⟩:=HP2.out
      have HL2:=hide HL2
      have HF2:=hide HF2
      have HN2:=hide HN2
      have hq2:X2.q=X.q:=HN2.out.q
      obtain ⟨A2,c2,htv2,hct2,hrt2⟩:=HL2.out.tail.bytes
      rw [HN.out] at hct2 htv2
      have HCT2:=hide hct2
      have HRT2:=hide hrt2
      have m9:=HL2.out.blk.cell (i:=9) rfl
      rw [hq2,htv2] at m9
      have HQ2:=hide hq2
      have HTV2:=hide htv2
      clear hq2 htv2 hct2 hrt2 k0 k9 hfi
      have hwh0:((n:Int) - (n:Int) % 480)=(wh:Int):=by have:=HWHL.out;unfold flo at this;omega
      have hwh1:IntKind.i64.wrap (wh:Int)=(wh:Int):=by rw [IntKind.wrap_i64];have:=HWHL.out;have:=HNL.out;have:=flo_le n;omega
      go_region
      obtain ⟨w3,hw3⟩:∃w3,w2.drew=w3:=⟨_,rfl⟩
      have HX3:Hid (Ext w2 w3):=hide (by rw [← hw3];exact Ext.drew _)
      rw [hw3]
      clear hw3
      have HL3:Hid (∀m,LgAt w0 (w3.drewN m) X2 D3 L):=hide (fun m=>(HL2.out.ext_ HX3.out).ext_ ((Ext.refl _).drewN m))
      have KE3:Hid (Calls Tryz.prog 75 #[.pointer (some ⟨X.q,0,none⟩)] w3 (fun e w' =>e= .returned (.int .u64 (en:Int))∧∃m,w' =w3.drewN m)):=hide (by
       have k1:=end_any (HL2.out.ext_ HX3.out) HOK3.out
       rw [HQ2.out,HEN.out] at k1
       exact k1)
      have HL4:Hid (∀m,LgAt w0 ((w3.drewN m).setCell ⟨X.q,8,none⟩ (.int .u64 (en:Int))) X2 D3 { L with sure:=en }):=hide (fun m=>by
       have k1:=(HL3.out m).put 8 (.int .u64 (en:Int)) { L with sure:=en } rfl rfl
       rw [HQ2.out] at k1
       exact k1)
      have HDN:Hid ((L.tail.drop wh).length=n - wh):=hide (by rw [List.length_drop,HN.out])
      have HWN:Hid (wh≤n):=hide (by rw [← HWHL.out];exact flo_le n)
      obtain ⟨td,HTD⟩:∃td,Hid (L.tail.drop wh=td):=⟨_,hide rfl⟩
      rw [HTD.out] at HDN
      have KCL:Hid (∀m,Calls Tryz.prog 87 #[.slice (cutB A2 c2 wh) (n - wh) (c2 - wh)] ((w3.drewN m).setCell ⟨X.q,8,none⟩ (.int .u64 (en:Int))) (Ret ((w3.drewN m).setCell ⟨X.q,8,none⟩ (.int .u64 (en:Int))) (fun w' v=>Own w' ((w3.drewN m).setCell ⟨X.q,8,none⟩ (.int .u64 (en:Int))).heap.size v td))):=hide (fun m=>by
       obtain ⟨A',c',htv',hct',hrt'⟩:=(HL4.out m).tail.bytes
       rw [HTV2.out] at htv'
       simp only [Value.slice.injEq] at htv'
       obtain ⟨rfl,-,rfl⟩:=htv'
       have h1:=hrt'.cutF HN.out HCT2.out wh HWN.out
       simp only at h1
       rw [HTD.out] at h1
       exact clone_any (cutB A2 c2 wh) td (n - wh) (c2 - wh) _ h1 HDN.out (by have:=HNL.out;omega))
      clear hwh0 hwh1 m9
      go_wp2_with (first
       | (go_at_call 75;(with_reducible refine KE3.out.mono ?_);rintro e w4 ⟨rfl,m3,rfl⟩;have s8:=(HL3.out m3).blk.cell (i:=8) rfl;have f8:=(HL3.out m3).blk.frozen 8;have s9:=(HL4.out m3).blk.cell (i:=9) rfl;rw [HQ2.out] at s8 f8 s9;rw [HTV2.out] at s9)
       | ((with_reducible show wpList _ _ _ (⟨some 91,_,_,_,_,_⟩::_) _ _);refine wpList_gives (gives_fromV rfl rfl rfl (run_fromI A2 n c2 wh HWN.out _) ⟨rfl,rfl⟩) rfl ?_)
       | (go_at_call 87;(with_reducible refine (KCL.out m3).mono ?_);rintro e w6 ⟨v,rfl,hx6,ho6⟩;obtain ⟨A6,c6,hv6,-,-⟩:=ho6.bytes;rw [HDN.out] at hv6;subst hv6;have HOB:=hide (fun k hk=>(own_block ho6 k hk).1);have HX6:=hide hx6;have HO6:=hide (ho6.low ((HL4.out m3).ext.size));have HL6:=hide ((HL4.out m3).ext_ hx6);have r9:=HL6.out.blk.cell (i:=9) rfl;have f9:=HL6.out.blk.frozen 9;rw [HQ2.out] at r9 f9;clear hx6 ho6))
      go_ret
      rw [HFE2.out,HFD2.out,HFL3.out]
      have HP9:=HL6.out.putTail _ _ HO6.out
      have e1:({ ({ L with sure:=en }:Lg) with tail:=td }:Lg)=sureL L:=by
       unfold sureL
       rw [HEN.out,HN.out,HWHL.out,HTD.out]
      rw [e1] at HP9
      have hfz:Lfr X2 w2 (w6.setCell ⟨X.q,9,none⟩ (.slice A6 (n - wh) c6)):=by
       have g1:Lfr X2 w2 ((w3.drewN m3).setCell ⟨X.q,8,none⟩ (.int .u64 (en:Int))):=by
        have h1:=Lfr.cell X2 (w3.drewN m3) 8 (.int .u64 (en:Int))
        rw [HQ2.out] at h1
        exact (Lfr.ext (HX3.out.trans ((Ext.refl _).drewN _))).trans h1 (Bk.Later.refl _ _)
       have g2:=Lfr.cell X2 w6 9 (.slice A6 (n - wh) c6)
       rw [HQ2.out] at g2
       exact (g1.trans (Lfr.ext HX6.out) (Bk.Later.refl _ _)).trans g2 (Bk.Later.refl _ _)
      have hsz:w.heap.size≤((w3.drewN m3).setCell ⟨X.q,8,none⟩ (.int .u64 (en:Int))).heap.size:=Nat.le_trans HF2.out.size (by
       have h1:=(HX3.out.trans ((Ext.refl w3).drewN m3)).size
       simpa using h1)
      refine ⟨{ X2 with tv:= .slice A6 (n - wh) c6 },rfl,(by rw [← HQ2.out];exact HP9),HF2.out.trans hfz HN2.out,⟨HN2.out.q,HN2.out.g,HN2.out.gd,HN2.out.gn,fun k hk=> ?_⟩⟩
      unfold Bk.has at hk
      rcases hk with hk | hk | hk | hk | hk | hk
      ·exact HN2.out.has k (.inl hk)
      ·exact HN2.out.has k (.inr (.inl hk))
      ·exact HN2.out.has k (.inr (.inr (.inl hk)))
      ·exact HN2.out.has k (.inr (.inr (.inr (.inl hk))))
      ·exact HN2.out.has k (.inr (.inr (.inr (.inr (.inl hk)))))
      ·exact .inr (Nat.le_trans hsz (HOB.out k hk))
     ·have HFL3:Hid (zL=L):=hide (by rw [HFLL.out,if_neg he3])
      have hee3:(e3 !=0)=true:=by simpa using he3
      clear he3
      go_wp2_with (go_at_call 47;(with_reducible refine KSY.out.mono ?_);rintro e w2 hp2;have HP2:=hide (LPost.trans HF1.out HN1.out hp2);obtain ⟨X2',rfl,-⟩:=hp2)
      go_ret
      rw [HFE2.out,HFD2.out,HFL3.out]
      exact HP2.out
end
open Go.ChangeMaps Go.MapKept
open Go.Maps (Keyed)
def ptrR:Value→Option (DataW Unit×List MemPlace)
 | .pointer (some ⟨b,0,none⟩)=>some (.lit (.int .i64 (b:Int)), [])
 | .pointer none=>some (.lit (.int .i64 (-1)), [])
 | _=>none
theorem ptrR_inv {v:Value} {y:DataW Unit×List MemPlace} (h:ptrR v=some y):(v= .pointer none∧y.1= .lit (.int .i64 (-1)))∨∃b:Nat,v= .pointer (some ⟨b,0,none⟩)∧y.1= .lit (.int .i64 (b:Int)):=by
 unfold ptrR at h
 split at h
 ·injection h with h;subst h;exact .inr ⟨_,rfl,rfl⟩
 ·injection h with h;subst h;exact .inl ⟨rfl,rfl⟩
 ·cases h
theorem ptrR_is {v:Value} {b:Nat} {ps:List MemPlace} (h:ptrR v=some (.lit (.int .i64 (b:Int)),ps)):v= .pointer (some ⟨b,0,none⟩):=by
 rcases ptrR_inv h with ⟨-,h2⟩ | ⟨c,rfl,h2⟩
 ·simp at h2
  try omega
 ·simp at h2
  try rw [h2]
  try simp [h2]
theorem ptrR_none {v:Value} {ps:List MemPlace} (h:ptrR v=some (.lit (.int .i64 (-1)),ps)):v= .pointer none:=by
 rcases ptrR_inv h with ⟨rfl,-⟩ | ⟨c,rfl,h2⟩
 ·rfl
 ·simp at h2
  try omega
def ik (i:Nat):Lit:= .int .i64 (i:Int)
theorem ik_wf (i:Nat) (h:i < 100000):(Lit.int .i64 (i:Int)).wf=true:=by
 show (decide ((-9223372036854775808:Int)≤(i:Int)) && decide ((i:Int)≤9223372036854775807))=true
 rw [decide_eq_true (by omega),decide_eq_true (by omega)];rfl
theorem ik_inj {i j:Nat} (h:ik i=ik j):i=j:=by unfold ik at h;simp at h;omega
def upM {α:Type} (m:Nat→Option α) (i:Nat) (d:Option α):Nat→Option α:=fun k=>if k=i then d else m k
theorem upM_same {α:Type} (m:Nat→Option α) (i:Nat) (d:Option α):upM m i d i=d:=if_pos rfl
theorem upM_other {α:Type} (m:Nat→Option α) {i k:Nat} (d:Option α) (h:k≠i):upM m i d k=m k:=if_neg h
structure Reads (D:DataW Unit) (m:Nat→Option (DataW Unit)) (sz:Nat):Prop where
 size:Maps.size D=sz
 has:∀i:Nat,Maps.has D (ik i)=(m i).isSome
 at_:∀(i:Nat) d,m i=some d→∀z,D.atKey (ik i) z=d
 key:∀kl,Maps.has D kl=true→∃i:Nat,i < 100000∧kl=ik i
theorem Reads.lt {D:DataW Unit} {m:Nat→Option (DataW Unit)} {sz:Nat} (h:Reads D m sz) {i:Nat} {d:DataW Unit} (hi:m i=some d):i < 100000:=by
 obtain ⟨j,hj,e⟩:=h.key (ik i) (by rw [h.has,hi];rfl)
 rw [ik_inj e];exact hj
def MapI (w:World) (R:Value→Option (DataW Unit×List MemPlace)) (b:Nat) (m:Nat→Option (DataW Unit)) (sz:Nat):Prop:=
 ∃D,w.ownsMap Tryz.prog 3 R b sz D∧Reads D m sz
theorem intK:Keyed Tryz.prog 3:=Maps.int_keyed Tryz.underlying3
theorem ik_key (i:Nat) (h:i < 100000):keyOf Tryz.prog 3 (.int .i64 (i:Int))=some (ik i):=Maps.keyOf_int_mk Tryz.underlying3 (ik_wf i h)
theorem ik_lit (i:Nat) (h:i < 100000):WideAt.IsKeyLit (ik i):=intK.key (ik_key i h)
section
variable {w w':World} {R:Value→Option (DataW Unit×List MemPlace)} {b sz:Nat} {m:Nat→Option (DataW Unit)} {t e:TypeId}
theorem MapI.obj (h:MapI w R b m sz):∃es clock,w.heap[b]? =some (.map es clock):=by
 obtain ⟨D,⟨es,clock,hb,-⟩,-⟩:=h
 exact ⟨es,clock,hb⟩
theorem MapI.lt (h:MapI w R b m sz):b < w.heap.size:=by
 obtain ⟨es,clock,hb⟩:=h.obj
 exact (Array.getElem?_eq_some_iff.1 hb).1
theorem MapI.keep (h:MapI w R b m sz) (hk:w'.heap[b]? =w.heap[b]?):MapI w' R b m sz:=by
 obtain ⟨D,⟨es,clock,hb,hr⟩,k⟩:=h
 exact ⟨D,⟨es,clock,hk.trans hb,hr⟩,k⟩
theorem MapI.exact_ {n:Nat} {D:DataW Unit} (h:w.ownsMap Tryz.prog 3 R b n D):w.ownsMap Tryz.prog 3 R b (Maps.size D) D:=by
 obtain ⟨es,clock,hb,F,_,rfl⟩:=h
 exact ⟨es,clock,hb,F,by simp [Maps.size,length_sorted],rfl⟩
theorem MapI.made (w:World):MapI (w.alloc (.map #[] 0)) R w.heap.size (fun _=>none) 0:=
 ⟨.map [],World.ownsMap_made w _ _ _,rfl,fun _=>rfl,fun _ _ h=>(by cases h),fun _ h=>(by cases h)⟩
theorem MapI.look (h:MapI w R b m sz) (ht:Tryz.prog.underlying t=some (.map 3 e)) {z:Value} (hz:(zeroValue e).run Tryz.prog w= .ok z w) {zd:DataW Unit} {zp:List MemPlace} (hzd:R z=some (zd,zp)) (i:Nat) (hi:i < 100000):
  ∃v ps,(Instr.lookup t (.map (some b)) (.int .i64 (i:Int)) false).run Tryz.prog w= .ok v w∧R v=some ((m i).getD zd,ps):=by
 obtain ⟨D,ho,k⟩:=h
 obtain ⟨v,ps,hrun,hv⟩:=ho.lookup intK ht hz hzd (ik_key i hi)
 refine ⟨v,ps,hrun, ?_⟩
 rw [hv]
 cases hm:m i with
 | none=>
  rw [Maps.atKey_of_not_has (by rw [k.has,hm];rfl)]
  rfl
 | some d=>rw [k.at_ i d hm];rfl
theorem MapI.look_ok (h:MapI w R b m sz) (ht:Tryz.prog.underlying t=some (.map 3 e)) {z:Value} (hz:(zeroValue e).run Tryz.prog w= .ok z w) {zd:DataW Unit} {zp:List MemPlace} (hzd:R z=some (zd,zp)) (i:Nat) (hi:i < 100000):
  ∃v ps,(Instr.lookup t (.map (some b)) (.int .i64 (i:Int)) true).run Tryz.prog w= .ok (.tuple #[v, .bool (m i).isSome]) w∧R v=some ((m i).getD zd,ps):=by
 obtain ⟨D,ho,k⟩:=h
 obtain ⟨v,ps,hrun,hv⟩:=ho.look_ok intK ht hz hzd (ik_key i hi)
 refine ⟨v,ps,by rw [← k.has];exact hrun, ?_⟩
 rw [hv]
 cases hm:m i with
 | none=>
  rw [Maps.atKey_of_not_has (by rw [k.has,hm];rfl)]
  rfl
 | some d=>rw [k.at_ i d hm];rfl
theorem MapI.len (h:MapI w R b m sz) (ht:Tryz.prog.underlying t=some (.map 3 e)) (ty:TypeId):(Builtin.len_ #[t] ty #[.map (some b)]).run Tryz.prog w= .ok (.int .i64 (sz:Int)) w:=by
 obtain ⟨D,ho,k⟩:=h
 have:=ho.len ht ty
 rw [k.size] at this
 exact this
theorem MapI.put (h:MapI w R b m sz) (ht:Tryz.prog.underlying t=some (.map 3 e)) (i:Nat) (hi:i < 100000) (hs:sz < 1000000) {val:Value} {d:DataW Unit} {ps:List MemPlace} (hv:R val=some (d,ps)):
  ∃w',(Instr.mapUpdate t (.map (some b)) (.int .i64 (i:Int)) val).run Tryz.prog w= .ok () w'∧MapI w' R b (upM m i (some d)) (if (m i).isSome then sz else sz + 1)∧w.mapTurned w' b:=by
 obtain ⟨D,ho,k⟩:=h
 have hM:Maps.IsMap D:=ho.isMap
 have hTi:Maps.Tidy D:=ho.tidy intK
 obtain ⟨w',hrun,ho',ht'⟩:=ho.store intK ht (by unfold maxLen;omega) (ik_key i hi) hv
 refine ⟨w',hrun,⟨D.put (ik i) d, ?_,⟨?_,fun j=> ?_,fun j d' hj z=> ?_,fun kl hk=> ?_⟩⟩,ht'⟩
 ·have h1:=MapI.exact_ ho'
  rw [Maps.size_put hTi,k.has,k.size] at h1
  exact h1
 ·rw [Maps.size_put hTi,k.has,k.size]
 ·by_cases hji:j=i
  ·subst hji
   rw [Maps.has_put_same hM (ik_lit j hi),upM_same];rfl
  ·rw [Maps.has_put_other (fun e=>hji (ik_inj e)),upM_other _ _ hji,k.has]
 ·by_cases hji:j=i
  ·subst hji
   rw [upM_same] at hj
   rw [Maps.atKey_put_same hM (ik_lit j hi)]
   exact Option.some.inj hj
  ·rw [upM_other _ _ hji] at hj
   rw [Maps.atKey_put_other (fun e=>hji (ik_inj e)),k.at_ j d' hj]
 ·by_cases hki:kl=ik i
  ·exact ⟨i,hi,hki⟩
  ·rw [Maps.has_put_other hki] at hk
   exact k.key kl hk
theorem MapI.del (h:MapI w R b m sz) (ht:Tryz.prog.underlying t=some (.map 3 e)) (i:Nat) (hi:i < 100000) (ty:TypeId):
  ∃w',(Builtin.delete_ #[t,3] ty #[.map (some b), .int .i64 (i:Int)]).run Tryz.prog w= .ok (.tuple #[]) w'∧MapI w' R b (upM m i none) (if (m i).isSome then sz - 1 else sz)∧w.mapTurned w' b:=by
 obtain ⟨D,ho,k⟩:=h
 have hTi:Maps.Tidy D:=ho.tidy intK
 obtain ⟨w',hrun,ho',ht'⟩:=ho.drop intK ht (ik_key i hi) ty
 have hsz:Maps.size (D.del (ik i))=if (m i).isSome then sz - 1 else sz:=by
  have h1:=Maps.size_del (k:=ik i) hTi
  rw [k.has,k.size] at h1
  cases hm:(m i).isSome <;> rw [hm] at h1 <;> simp at h1 ⊢ <;> omega
 refine ⟨w',hrun,⟨D.del (ik i), ?_,⟨hsz,fun j=> ?_,fun j d' hj z=> ?_,fun kl hk=> ?_⟩⟩,ht'⟩
 ·have h1:=MapI.exact_ ho'
  rw [hsz] at h1
  exact h1
 ·by_cases hji:j=i
  ·subst hji
   rw [Maps.has_del_same,upM_same];rfl
  ·rw [Maps.has_del_other (fun e=>hji (ik_inj e)),upM_other _ _ hji,k.has]
 ·by_cases hji:j=i
  ·subst hji
   rw [upM_same] at hj
   cases hj
  ·rw [upM_other _ _ hji] at hj
   rw [Maps.atKey_del_other (fun e=>hji (ik_inj e)),k.at_ j d' hj]
 ·by_cases hki:kl=ik i
  ·exact ⟨i,hi,hki⟩
  ·rw [Maps.has_del_other hki] at hk
   exact k.key kl hk
theorem MapI.clear (h:MapI w R b m sz) (ht:Tryz.prog.underlying t=some (.map 3 e)) (ty:TypeId):
  ∃w',(Builtin.clear_ #[t] ty #[.map (some b)]).run Tryz.prog w= .ok (.tuple #[]) w'∧MapI w' R b (fun _=>none) 0∧w.mapTurned w' b:=by
 obtain ⟨D,⟨es,clock,hb,F,-⟩,-⟩:=h
 refine ⟨setBlock w b (.map #[] clock), ?_,⟨.map [],⟨#[],clock,heap_setBlock_same hb _,⟨by simp,stamped_empty clock,by simp⟩,Nat.le_refl _,rfl⟩,rfl,fun _=>rfl,fun _ _ h=>(by cases h),fun _ h=>(by cases h)⟩,⟨es,clock, #[],clock,hb,rfl⟩⟩
 simp [Builtin.clear_,run_underlying ht,MapKept.run_getObj_map hb,MapKept.run_setObj_map _ hb,Result.andThen]
 rfl
theorem mapTurned_other (h:w.mapTurned w' b):∀k,k≠b→w'.heap[k]? =w.heap[k]? :=by
 obtain ⟨es,clock,es',clock',hb,rfl⟩:=h
 exact fun k hk=>heap_setBlock_other hb _ hk
theorem mapTurned_rest (h:w.mapTurned w' b):w'.os=w.os∧w'.tape=w.tape∧w'.output=w.output∧w'.heap.size=w.heap.size:=by
 obtain ⟨es,clock,es',clock',hb,rfl⟩:=h
 exact ⟨rfl,rfl,rfl,by simp [setBlock]⟩
end
structure Fm where
 by_:List UInt8
 last:Nat
 hi:Nat
 ch:Bool
 since:Nat
 pins:Nat
 used:Nat
structure Pl where
 at_:Nat
 pages:Nat
 frames:Nat
 H:Nat→Option Fm
 n:Nat
 W:Nat→Option Nat
 m:Nat
 sure:Nat
 asked:Nat
structure Fm.Ok (f:Fm) (P:Pl):Prop where
 by_:f.by_.length=504
 last:f.last < 18446744073709551616
 hi:f.hi < 18446744073709551616
 since:f.since < 18446744073709551616
 pins:f.pins < 1000000
 used:f.used≤P.asked
structure Pl.Ok (P:Pl) (n:Nat):Prop where
 at_:P.at_ + P.pages≤n
 max:n≤4096
 pages:1≤P.pages
 frames:1≤P.frames∧P.frames≤64
 page:∀i f,P.H i=some f→i < P.pages∧f.Ok P
 one:∀i j f g,P.H i=some f→P.H j=some g→f.used=g.used→i=j
 cnt:P.n≤P.frames
 way:∀i s,P.W i=some s→s < 18446744073709551616
 sure:P.sure < 18446744073709551616
def idleB (H:Nat→Option Fm) (n i:Nat):Bool:=match H i with
 | some f=>f.pins==0 && (List.range n).all (fun j=>match H j with
  | some g=>g.pins !=0 || decide (f.used≤g.used)
  | none=>true)
 | none=>false
def idle (H:Nat→Option Fm) (n:Nat):Option Nat:=(List.range n).find? (idleB H n)
theorem idleB_iff {H:Nat→Option Fm} {n i:Nat}:idleB H n i=true↔∃f,H i=some f∧f.pins=0∧∀j g,j < n→H j=some g→g.pins=0→f.used≤g.used:=by
 unfold idleB
 cases hi:H i with
 | none=>simp
 | some f=>
  simp only [Bool.and_eq_true,beq_iff_eq,List.all_eq_true,List.mem_range,Option.some.injEq,exists_eq_left']
  refine and_congr_right fun _=>⟨fun h j g hj hg hp=> ?_,fun h j hj=> ?_⟩
  ·have:=h j hj
   rw [hg] at this
   simp [hp] at this
   exact this
  ·cases hg:H j with
   | none=>rfl
   | some g=>
    by_cases hp:g.pins=0
    ·simp [hp];exact h j g hj hg hp
    ·simp [hp]
theorem idle_none {P:Pl} (h:∀i f,P.H i=some f→f.pins≠0):idle P.H P.pages=none:=by
 unfold idle
 rw [List.find?_eq_none]
 intro i _ hb
 obtain ⟨f,h1,h2,-⟩:=idleB_iff.1 hb
 exact h i f h1 h2
theorem idle_some {P:Pl} {n i:Nat} (ok:P.Ok n) {f:Fm} (hi:P.H i=some f) (hp:f.pins=0) (hm:∀j g,P.H j=some g→g.pins=0→f.used≤g.used):idle P.H P.pages=some i:=by
 unfold idle
 have hb:idleB P.H P.pages i=true:=idleB_iff.2 ⟨f,hi,hp,fun j g _ hg hq=>hm j g hg hq⟩
 cases hq:(List.range P.pages).find? (idleB P.H P.pages) with
 | none=>
  rw [List.find?_eq_none] at hq
  exact absurd hb (hq i (List.mem_range.2 (ok.page i f hi).1))
 | some j=>
  obtain ⟨g,h1,h2,h3⟩:=idleB_iff.1 (List.find?_some hq)
  have e1:=h3 i f (ok.page i f hi).1 hi hp
  have e2:=hm j g h1 h2
  rw [ok.one i j f g hi h1 (by omega)]
theorem idle_is {P:Pl} {i:Nat} (h:idle P.H P.pages=some i):∃f,P.H i=some f∧f.pins=0∧i < P.pages:=by
 unfold idle at h
 obtain ⟨f,h1,h2,-⟩:=idleB_iff.1 (List.find?_some h)
 exact ⟨f,h1,h2,List.mem_range.1 (List.mem_of_find?_eq_some h)⟩
def secB (f:Fm):List UInt8:=be64 (f.last:Int) ++ f.by_
def frameB (s:List UInt8):Fm:=⟨s.drop 8,(num (s.take 8)).toNat,0,false,0,0,0⟩
theorem secB_len {f:Fm} (h:f.by_.length=504):(secB f).length=512:=by
 unfold secB
 rw [List.length_append,be64_length,h]
theorem frameB_sec {f:Fm} (h:f.by_.length=504) (hl:f.last < 18446744073709551616):(frameB (secB f)).by_=f.by_∧(frameB (secB f)).last=f.last:=by
 unfold frameB secB
 refine ⟨List.drop_left' (be64_length _), ?_⟩
 show (num ((be64 (f.last:Int) ++ f.by_).take 8)).toNat=f.last
 rw [List.take_left' (be64_length _),num_be64 _ (by omega) (by omega)]
 omega
structure St where
 D:Dk
 L:Lg
 P:Pl
def settleP (L:Lg) (P:Pl):Pl:=if P.sure < L.sure then { P with W:=fun _=>none,m:=0,sure:=L.sure } else P
def wayP (P:Pl) (i s:Nat):Pl:=if (P.W i).isSome then P else { P with W:=upM P.W i (some s),m:=P.m + 1 }
def aheadR (S:St) (f:Fm):Int×St:=if S.L.sure≤f.hi then (flE S.D S.L,{ S with D:=flD S.D S.L,L:=flL S.D S.L }) else (0,S)
def putR (S:St) (i:Nat) (f:Fm):Int×St:=(wE S.D ((S.P.at_ + i:Nat):Int) (secB f),{ S with D:=wD S.D ((S.P.at_ + i:Nat):Int) (secB f) })
def storeR (S:St) (i:Nat) (f:Fm):Int×St:=
 if (aheadR S f).1≠0 then aheadR S f else
 if (putR (aheadR S f).2 i f).1≠0 then putR (aheadR S f).2 i f else
 (0,{ (putR (aheadR S f).2 i f).2 with P:=wayP (settleP (aheadR S f).2.L S.P) i f.since })
def dropP (P:Pl) (i:Nat):Pl:= { P with H:=upM P.H i none,n:=P.n - 1 }
def roomR (S:St):Int×St:=
 if S.P.n < S.P.frames then (0,S) else
 match idle S.P.H S.P.pages with
 | none=>(9,S)
 | some i=>match S.P.H i with
  | none=>(9,S)
  | some f=>if f.ch=true then (if (storeR S i f).1≠0 then storeR S i f else (0,{ (storeR S i f).2 with P:=dropP (storeR S i f).2.P i })) else (0,{ S with P:=dropP S.P i })
def askP (P:Pl) (i:Nat) (f:Fm):Pl:= { P with H:=upM P.H i (some { f with used:=P.asked + 1 }),asked:=P.asked + 1 }
def bringP (P:Pl) (i:Nat) (s:List UInt8):Pl:= { P with H:=upM P.H i (some (frameB s)),n:=P.n + 1 }
def pageR (S:St) (i:Int):Int×St:=
 if i < 0∨(S.P.pages:Int)≤i then (1,S) else
 match S.P.H i.toNat with
 | some f=>(0,{ S with P:=askP S.P i.toNat f })
 | none=>
  if gE S.D ((S.P.at_:Int) + i)≠0 then (gE S.D ((S.P.at_:Int) + i),S) else
  if (roomR S).1≠0 then roomR S else
  (0,{ (roomR S).2 with P:=askP (bringP (roomR S).2.P i.toNat (gB S.D ((S.P.at_:Int) + i))) i.toNat (frameB (gB S.D ((S.P.at_:Int) + i))) })
end Go.Proofs.YthmdmgnhfhpcaaaGreatDoor
