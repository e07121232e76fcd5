/-
  What the card wants, part 1: DskW, LgN, DskS, DskY, DskC, DskT, DskE, Grx, DskN, DskF, DskQ, LgD.
-/
import Derived.Maps.AppendAt
import Derived.Great.BuildSlice
import Derived.Deep.Cut
import Derived.Deep.CutRange
import Derived.BigRegion
import Derived.Laws.OwnMore
import Derived.Lib.SlBytesConst
import Derived.Test.YthmdmgnhfhpcaaaGreatDoorPkCardSvE0
set_option linter.unusedVariables false
set_option linter.unusedSimpArgs false
set_option maxRecDepth 20000
set_option maxHeartbeats 12800000
namespace Go.Proofs.YthmdmgnhfhpcaaaGreatDoor
open Go.RowKit
section
variable {P:Program} {o:Oper} {a:Act} {w:World} {R:Value→World→Prop}
theorem gives_nilCheck {x:Operand} {ad:Addr} (h:o.op= .nilCheck x) (hx:a.eval x= .pointer (some ad)) (hR:R (.pointer (some ad)) w):gives P o a w R:=by
 refine gives_of_run (w':=w) (v:= .pointer (some ad)) ?_ hR
 simp [execOp,h,hx]
theorem gives_fieldP {x:Operand} {t i:Nat} {u v:Value} (h:o.op= .fieldAddr t x i) (hx:a.eval x=u) (hrun:(Instr.fieldAt t u i).run P w= .ok v w) (hR:R v w):gives P o a w R:=by
 refine gives_of_run (w':=w) (v:=v) ?_ hR
 unfold execOp
 simp only [h,hx,Sem.run_bind,hrun,Result.andThen_ok,Sem.run_pure]
theorem gives_load_one {x:Operand} {ty:TypeId} {ad:Addr} {v:Value} {e:Nat} (h:o.op= .load ty x) (hx:a.eval x= .pointer (some ad)) (hu:P.underlying ty=some (.slice e)) (hc:w.cell? ad=some v) (hR:R v w):gives P o a w R:=by
 have hl:(loadVar ty ad).run P w= .ok v w:=by simp [loadVar,isAgg,run_underlying hu,go_sem,hc]
 unfold gives execOp
 simp only [h,hx,Instr.loadAt,Instr.sureAddr,Sem.run_bind,Sem.run_pure,Result.andThen_ok,hl]
 exact hR
theorem gives_store_one {x y:Operand} {ty:TypeId} {ad:Addr} {v:Value} (h:o.op= .store ty x y) (hx:a.eval x= .pointer (some ad)) (hy:a.eval y=v) (hrun:(storeVar ty ad v).run P w= .ok () (w.setCell ad v)) (hR:R undef (w.setCell ad v)):gives P o a w R:=by
 unfold gives execOp
 simp only [h,hx,hy,Instr.storeAt,Instr.sureAddr,Sem.run_bind,Sem.run_pure,Result.andThen_ok,hrun]
 exact hR
theorem gives_build {t:TypeId} {parts:Array (Nat×Operand)} (h:o.op= .build t parts) (cells:Array Value) (vs:List (Nat×Value)) (hv:parts.toList.map (fun x=>(x.1,a.eval x.2))=vs) (hb:P.built t vs=some cells) (hR:R (.agg cells) w):gives P o a w R:=by
 refine gives_of_run (w':=w) (v:= .agg cells) ?_ hR
 have hb2:P.built t (parts.map fun (i,x)=>(i,a.eval x)).toList=some cells:=by
  rw [← hb,← hv,Array.toList_map]
 unfold execOp
 simp only [h,Sem.run_bind,run_build w t _ cells hb2,Result.andThen_ok,Sem.run_pure]
end
theorem zeroWr:(Tryz.prog.info? 121).map (fun i=>(i.zero,i.size))=some (some (.agg (penC (0,List.replicate 512 0)).toArray),513):=by kernel_rfl
theorem sizeWr:(Tryz.prog.info? 121).map (·.size)=some 513:=by kernel_rfl
theorem bytesWr:(Tryz.prog.info? 121).map (·.bytes)=some 520:=by kernel_rfl
theorem builtWr (k:Int):Tryz.prog.built 121 [(0, .int .i64 k)]=some (.int .i64 k::bs (List.replicate 512 0)).toArray:=by kernel_rfl
theorem build_one (x:Nat×List UInt8) (hx:x.2.length=512) (w:World):(Instr.buildSlice 56 1 #[(0, .agg (penC x).toArray)]).run Tryz.prog w= .ok (.slice (some ⟨w.heap.size,0,none⟩) 1 1) (w.alloc (.cells (penC x).toArray 121)):=by
 have hz:=zeroWr
 cases hq:Tryz.prog.info? 121 with
 | none=>rw [hq] at hz;cases hz
 | some i=>
  rw [hq] at hz
  simp only [Option.map_some,Option.some.injEq,Prod.mk.injEq] at hz
  obtain ⟨hz1,hz2⟩:=hz
  have hl:=penC_length x hx
  have hZ:(penC (0,List.replicate 512 0)).toArray.size=513:=by rw [List.size_toArray];exact penC_length _ (List.length_replicate ..)
  generalize (penC (0,List.replicate 512 0)).toArray=Z at hz1 hZ
  generalize penC x=y at hl
  refine run_buildSlice w 56 121 1 #[(0, .agg y.toArray)] y.toArray i _ Tryz.underlying56 hq hz1 (by rw [hz2];decide) (by rw [hz2];decide) ?_
  rw [hz2]
  have h:=Great.fill_whole (s:=513) (by decide) [.agg y.toArray] ((Array.range (1 * 513)).map ((Value.agg Z).cells[· % (Value.agg Z).cells.size]!)) (by
   intro v hv
   rw [List.mem_singleton.1 hv]
   show y.toArray.size=513
   rw [List.size_toArray,hl]) (by rw [Array.size_map,Array.size_range];rfl)
  have e2:([Value.agg y.toArray].flatMap fun v=>v.cells.toList).toArray=y.toArray:=by simp [Value.cells]
  rw [e2] at h
  exact h
theorem gives_buildSlice {P:Program} {o:Oper} {a:Act} {w:World} {R:Value→World→Prop} {t:TypeId} {n:Nat} {parts:Array (Nat×Operand)} {v:Value} {w':World} (h:o.op= .buildSlice t n parts) (vs:List (Nat×Value)) (hv:parts.toList.map (fun x=>(x.1,a.eval x.2))=vs)
  (hrun:(Instr.buildSlice t n vs.toArray).run P w= .ok v w') (hR:R v w'):gives P o a w R:=by
 refine gives_of_run (w':=w') (v:=v) ?_ hR
 have e:(parts.map fun (i,x)=>(i,a.eval x))=vs.toArray:=by
  apply Array.ext'
  rw [Array.toList_map]
  exact hv
 unfold execOp
 simp only [h,e,Sem.run_bind,hrun,Result.andThen_ok,Sem.run_pure]
theorem gives_append {P:Program} {o:Oper} {a:Act} {w:World} {R:Value→World→Prop} {s x:Operand} {t:TypeId} {u y v:Value} {w':World} (h:o.op= .call { callee:= .builtin .append,args:= #[s,x],argTypes:= #[t,t] }) (hs:a.eval s=u) (hx:a.eval x=y)
  (hrun:(Builtin.append_ #[t,t] o.type #[u,y]).run P w= .ok v w') (hR:R v w'):gives P o a w R:=by
 refine gives_of_run (w':=w') (v:=v) ?_ hR
 unfold execOp
 simp only [h,resolve,invoke,builtin,Sem.run_bind,Sem.run_pure,Result.andThen_ok,List.map_toArray,List.map_cons,List.map_nil,hs,hx,hrun]
theorem run_fieldD1 (g:Nat) (w:World):(Instr.fieldAt 58 (.pointer (some ⟨g,0,none⟩)) 1).run Tryz.prog w= .ok (.pointer (some ⟨g,1,none⟩)) w:=by
 simp [go_sem]
theorem run_storeP {w:World} {g:Nat} {x:Value} (hc:w.cell? ⟨g,1,none⟩=some x) (hf:w.frozen? ⟨g,1,none⟩=false) (A:Option Addr) (n c:Nat):(storeVar 56 ⟨g,1,none⟩ (.slice A n c)).run Tryz.prog w= .ok () (w.setCell ⟨g,1,none⟩ (.slice A n c)):=by
 simp [storeVar,go_sem,hc,hf]
theorem ne_own {A:Option Addr} {n c k:Nat} (h:∀a,A=some a→a.block≠k):some k≠(Value.slice A n c).ownBlock:=by
 cases A with
 | none=>simp [Value.ownBlock]
 | some a=>simp only [Value.ownBlock];intro e;injection e with e;exact h a rfl e.symm
theorem splice_pen (k:Nat) (p:List UInt8) (hp:p.length=512):splice (penC (k,List.replicate 512 0)) 1 (bs p)=penC (k,p):=by
 unfold splice
 rw [bs_length,hp,List.drop_of_length_le (by rw [penC_length _ (List.length_replicate ..)];decide),List.append_nil]
 rfl
theorem copy_src {w:World} {P:Option Addr} {p:List UInt8} (h:Rd w P p) (hn:p≠ []):∃ad,P=some ad∧∀(j:Nat) (v:Value),(bs p)[j]? =some v→w.cell? (ad.add j)=some v:=by
 obtain ⟨b,off,rfl,_⟩:=id h hn
 exact ⟨_,rfl,h.cells rfl hn⟩
def Dk.put (D:Dk) (k:Nat) (p:List UInt8):Dk:= { D with pen:=D.pen ++ [(k,p)] }
theorem append_wr (w:World) (B ty:Nat) (A:Option Addr) (c:Nat) (l:List (Nat×List UInt8)) (x:Nat×List UInt8) (hown:w.ownsRow B 121 513 (.slice A l.length c) l.length (pensC l)) (hx:x.2.length=512) (hf:l.length < 1000000000) (g:Nat) (hg:Rw w g 121 (penC x)) (hB:B≤w.heap.size):
  ∃A' c' w',(Builtin.append_ #[56,56] ty #[.slice A l.length c, .slice (some ⟨g,0,none⟩) 1 1]).run Tryz.prog w= .ok (.slice A' (l.length + 1) c') w'∧w'.ownsRow B 121 513 (.slice A' (l.length + 1) c') (l.length + 1) (pensC (l ++ [x]))∧
   w.grownBy w' (Value.slice A l.length c).ownBlock∧Newer w A A':=by
 have hz:=zeroWr
 have hby:=bytesWr
 cases hq:Tryz.prog.info? 121 with
 | none=>rw [hq] at hz;cases hz
 | some i=>
  rw [hq] at hz hby
  simp only [Option.map_some,Option.some.injEq,Prod.mk.injEq] at hz hby
  obtain ⟨v',w',h1,h2,h3,_,h5⟩:=run_append_own_at (P:=Tryz.prog) w B 56 ty 121 i _ 513 520 Tryz.underlying56 hq hz.1 hz.2 hby (by show (penC (0,List.replicate 512 0)).toArray.size=513;rw [List.size_toArray];exact penC_length _ (List.length_replicate ..)) (by decide) (.slice A l.length c) l.length (pensC l) hown ⟨g,0,none⟩ 1 1 (penC x) (by rw [penC_length x hx]) (fun j u hu=>by rw [add_flat,Nat.zero_add];exact hg.cell hu) (penC_one x) (by unfold maxLen;omega) (by omega) hB
  obtain ⟨A',c',rfl⟩:∃A' c',v' = .slice A' (l.length + 1) c':=by
   rcases h2.2 with ⟨_,h0⟩ | ⟨g',cap,_,hv,_⟩
   ·omega
   ·exact ⟨_,_,hv⟩
  refine ⟨A',c',w',h1,by rw [pensC_append];simpa [pensC] using h2,h3,fun a' ha' => ?_⟩
  subst ha'
  rcases h5 with h5 | h5
  ·cases A with
   | none=>simp [Value.ownBlock] at h5
   | some a=>simp [Value.ownBlock] at h5;exact .inl ⟨a,rfl,h5.symm⟩
  ·simp [Value.ownBlock] at h5;exact .inr (by omega)
theorem put_at {B g gd gn c c' m k:Nat} {W:World} {A A':Option Addr} {D:Dk} {p:List UInt8} (hg:Rw W g 58 ((diskC gd gn A c D).set 1 (.slice A' (m + 1) c'))) (hd:Rw W gd 119 (bs D.dur.flatten)) (hn:Rw W gn 3 (newL D.dur.length D.pen))
  (ho:W.ownsRow B 121 513 (.slice A' (m + 1) c') (m + 1) (pensC (D.pen ++ [(k,p)]))) (hb:B≤g∧B≤gd∧B≤gn) (hm:D.pen.length=m) (hk:k < D.dur.length):
  DiskAt B (W.setCell ⟨gn,k,none⟩ (.int .i64 ((m:Int) + 1))).drew g gd gn A' c' (D.put k p):=by
 have n2:g≠gn:=hg.apart hn (by decide)
 have n3:gd≠gn:=hd.apart hn (by decide)
 have n4:=hn.apart_own ho (by decide)
 have hlen:(D.pen ++ [(k,p)]).length=m + 1:=by rw [List.length_append,hm];rfl
 refine ⟨?_, ?_, ?_, ?_,hb⟩
 ·have h:=(hg.far (p:=⟨gn,k,none⟩) n2 (.int .i64 ((m:Int) + 1))).ext (Ext.drew _)
  have e:diskC gd gn A' c' (D.put k p)=(diskC gd gn A c D).set 1 (.slice A' (m + 1) c'):=by
   unfold diskC Dk.put
   simp only [hlen,List.set_cons_succ,List.set_cons_zero]
  rw [e];exact h
 ·exact (hd.far (p:=⟨gn,k,none⟩) n3 (.int .i64 ((m:Int) + 1))).ext (Ext.drew _)
 ·have h:=(hn.set k (.int .i64 ((m:Int) + 1))).ext (Ext.drew _)
  have e:newL (D.put k p).dur.length (D.put k p).pen=(newL D.dur.length D.pen).set k (.int .i64 ((m:Int) + 1)):=by
   show newL D.dur.length (D.pen ++ [(k,p)])=_
   rw [newL_snoc _ _ _ hk,hm]
   rfl
  rw [e];exact h
 ·show World.ownsRow _ B 121 513 (.slice A' (D.pen ++ [(k,p)]).length c') (D.pen ++ [(k,p)]).length (pensC (D.pen ++ [(k,p)]))
  rw [hlen]
  exact ownsRow_far ho fun a ha=>Below.heap_setCell W ⟨gn,k,none⟩ _ a.block (n4 a ha)
theorem write_any {B g gd gn c d:Nat} {w:World} {A P:Option Addr} {D:Dk} (h:DiskAt B w g gd gn A c D) (ok:D.Ok) (hoff:D.off=false) (hf:D.pen.length < 1000000) (ho:D.ops < 1000000) (ha:D.arm < 9223372036854775808) (k:Nat) (hk:k < D.dur.length)
    (p:List UInt8) (hp:p.length=512) (hP:Rd w P p) (hB:B≤w.heap.size):
    Calls Tryz.prog 46 #[.pointer (some ⟨g,0,none⟩), .int .i64 (k:Int), .slice P 512 d] w (DPost B g gd gn w A (.int .i64 (D.put k p).opE) (D.put k p).op):=by
  obtain ⟨c0,c1,c2,-,-,c5⟩:=disk_cells h
  rw [hoff] at c5
  have KH:=has_any h (k:Int)
  rw [show (decide ((0:Int)≤(k:Int)) && decide ((k:Int) < (D.dur.length:Int)))=true by simp;omega] at KH
  have H:=hide h
  have OK:=hide ok
  have HPR:=hide hP
  have HPL:=hide hp
  have HPN:=hide (show p≠ [] by intro e;rw [e] at hp;cases hp)
  obtain ⟨n,HN⟩:∃n,Hid (D.dur.length=n):=⟨_,hide rfl⟩
  obtain ⟨m,HM⟩:∃m,Hid (D.pen.length=m):=⟨_,hide rfl⟩
  have HF:=hide hf
  have HOP:=hide ho
  have HAR:=hide ha
  have HKN:=hide hk
  rw [HN.out] at c0 c2 hk
  rw [HM.out] at c1
  have hki:(k:Int) < (n:Int):=by omega
  have hki0:(0:Int)≤(k:Int):=by omega
  clear h ok hoff hP hp hf ho ha
  go_enter Tryz.func46,Tryz.ntmps46
  go_upto_region 11 with (first
    | (go_at_call 76;refine KH.mono ?_;rintro e w1 ⟨rfl,rfl⟩)
    | ((with_reducible show wpList _ _ _ (⟨some 26, .build _ _,_,_,_,_⟩::_) _ _);refine wpList_gives (gives_build rfl _ [(0, .int .i64 (k:Int))] rfl (builtWr (k:Int)) ⟨rfl,rfl⟩) rfl ?_)
    | ((with_reducible show wpList _ _ _ (⟨some 7, .alloc _,_,_,_,_⟩::_) _ _);refine wpList_gives (gives_alloc_z 121 rfl _ 513 zeroWr ⟨rfl,rfl⟩) rfl ?_)
    | ((with_reducible show wpList _ _ _ (⟨none, .store _ (.tmp 7) (.tmp 26),_,_,_,_⟩::_) _ _);
       refine wpList_store_rw rfl 121 (.tmp 7) (.tmp 26) rfl _ rfl (penC (k,List.replicate 512 0)) rfl 121 (penC (0,List.replicate 512 0)) (heap_alloc_new w _) 513 sizeWr rfl rfl (List.all_eq_true.2 (penC_one _)) ?_;
       intro w2 hr2 hl2;
       have hx2:Ext w w2:=(Ext.alloc w _).laid hl2 (Nat.le_refl _);
       have HR2:=hide hr2;clear hr2 hl2)
    | ((with_reducible show wpList _ _ _ (⟨some 28,_,_,_,_,_⟩::_) _ _);refine wpList_gives (gives_cutall rfl rfl (run_all512 _ _ _) ⟨rfl,rfl⟩) rfl ?_)
    | ((with_reducible show wpList _ _ _ (⟨some 30,_,_,_,_,_⟩::_) _ _);
       refine wpList_copy_splice rfl (.tmp 28) (.tmp 29) 22 22 rfl 5 Tryz.underlying22 (by kernel_rfl) (some ⟨w.heap.size,1,none⟩) P 512 512 512 d rfl rfl w.heap.size 1 (penC (k,List.replicate 512 0)) 121 HR2.out (bs p) (by rw [bs_length,HPL.out];rfl) (fun _=>⟨rfl,copy_src (HPR.out.ext hx2) HPN.out⟩) (by rw [bs_length,HPL.out,penC_length _ (List.length_replicate ..)];decide) (bs_one p) w.heap.size w2 (Below.refl _ _) (Nat.le_refl _) ?_;
       intro w3 hw3 hb3;
       have hx3:Ext w w3:=Below.trans hx2 hb3))
  have HR3:Hid (Rw w3 w.heap.size 121 (penC (k,p))):=hide (by
    have h:=hw3.out
    rw [splice_pen k p HPL.out] at h
    exact h)
  clear hw3 hb3 HR2 hx2
  dsimp only [Act.put,List.setIfInBounds_toArray,List.set_cons_succ,List.set_cons_zero]
  have HD3:=hide (H.out.ext hx3)
  have HW0:Hid (DiskAt B w3.drew g gd gn A c D):=hide (HD3.out.ext (Ext.drew _))
  have HD1:Hid (DiskAt B (w3.drew.alloc (.cells (penC (k,p)).toArray 121)) g gd gn A c D):=hide (HW0.out.ext (Ext.alloc _ _))
  have HN1:Hid (Rw (w3.drew.alloc (.cells (penC (k,p)).toArray 121)) w3.drew.heap.size 121 (penC (k,p))):=hide (Rw.new w3.drew 121 (penC (k,p)))
  have HR0:Hid (Rw w3.drew w.heap.size 121 (penC (k,p))):=hide (HR3.out.ext (Ext.drew _))
  obtain ⟨A',c',W2,hrun,hown,hgr,hnew⟩:=append_wr (w3.drew.alloc (.cells (penC (k,p)).toArray 121)) B 56 A c D.pen (k,p) HD1.out.pen HPL.out (by have:=HF.out;omega) _ HN1.out (by have:=hx3.size;simp;omega)
  rw [HM.out] at hrun hown
  obtain ⟨n1,n2,n3,n4⟩:=HD1.out.ne
  obtain ⟨g7,hg7⟩:∃g7,g7=w.heap.size:=⟨_,rfl⟩
  rw [← hg7] at HR0 ⊢
  have k1:=(disk_cells HW0.out).2.1
  have l1:=(disk_cells HD1.out).2.1
  rw [HM.out] at k1 l1
  -- the disk's own block behind the append
  have HB2:Hid (Rw W2 g 58 (diskC gd gn A c D)):=hide ((hgr.block g HD1.out.blk.lt (ne_own (fun a ha=>(n4 a ha).1))).trans HD1.out.blk)
  have HV2:Hid (Rw W2 gd 119 (bs D.dur.flatten)):=hide ((hgr.block gd HD1.out.dur.lt (ne_own (fun a ha=>(n4 a ha).2.1))).trans HD1.out.dur)
  have HL2:Hid (Rw W2 gn 3 (newL D.dur.length D.pen)):=hide ((hgr.block gn HD1.out.new.lt (ne_own (fun a ha=>(n4 a ha).2.2))).trans HD1.out.new)
  have HC2:=hide (HB2.out.cell (i:=1) rfl)
  have HF2:=hide (HB2.out.frozen 1)
  refine wp_region_chain [.pointer (some ⟨g,0,none⟩), .pointer (some ⟨g,0,none⟩), .pointer (some ⟨g,0,none⟩), .pointer (some ⟨g,1,none⟩), .slice A m c, .agg (penC (k,p)).toArray, .slice (some ⟨w3.drew.heap.size,0,none⟩) 1 1, .slice A' (m + 1) c', .pointer (some ⟨g,0,none⟩), .pointer (some ⟨g,1,none⟩),undef]
    [w3.drew,w3.drew.alloc (.cells (penC (k,p)).toArray 121),W2,W2.setCell ⟨g,1,none⟩ (.slice A' (m + 1) c')] [6,7,10] (by kernel_rfl) (by kernel_rfl) (by kernel_rfl) rfl ?_ ?_
  · refine ⟨?_, ?_, ?_, ?_, ?_, ?_, ?_, ?_, ?_, ?_, ?_,trivial⟩
    · intro az hk H
      rw [if_neg (by decide)]
      intro j _
      refine .inl ⟨wanted_none rfl,gives_move rfl ?_⟩
      rw [ev (show az.tmps[0]? =some (.pointer (some ⟨g,0,none⟩)) from hk 0 rfl)]
      exact ⟨rfl,rfl⟩
    · intro az hk H
      rw [if_neg (by decide)]
      intro j _
      refine .inl ⟨wanted_none rfl,gives_move rfl ?_⟩
      rw [ev (show az.tmps[0]? =some (.pointer (some ⟨g,0,none⟩)) from hk 0 rfl)]
      exact ⟨rfl,rfl⟩
    · intro az hk H
      rw [if_neg (by decide)]
      intro j _
      exact .inl ⟨wanted_none rfl,gives_nilCheck rfl (ev (H 1 rfl _ rfl 32 rfl)) ⟨rfl,rfl⟩⟩
    · intro az hk H
      rw [if_neg (by decide)]
      intro j _
      exact .inl ⟨wanted_none rfl,gives_fieldP rfl (ev (H 2 rfl _ rfl 33 rfl)) (run_fieldD1 g _) ⟨rfl,rfl⟩⟩
    · intro az hk H
      rw [if_neg (by decide)]
      intro j hj
      have hj2:j≤1:=hj
      refine .inl ⟨wanted_none rfl, ?_⟩
      rcases j with _ | _ | j
      · exact gives_load_one rfl (ev (H 3 rfl _ rfl 34 rfl)) Tryz.underlying56 k1 ⟨rfl,rfl⟩
      · exact gives_load_one rfl (ev (H 3 rfl _ rfl 34 rfl)) Tryz.underlying56 l1 ⟨rfl,rfl⟩
      · omega
    · intro az hk H
      rw [if_neg (by decide)]
      intro j hj
      have hj2:j≤0:=hj
      obtain rfl:j=0:=by omega
      refine .inl ⟨wanted_none rfl, ?_⟩
      exact gives_load_at 121 (.tmp 7) rfl g7 0 (by rw [ev (show az.tmps[7]? =some (.pointer (some ⟨g7,0,none⟩)) from hk 7 rfl)]) (penC (k,p)) 513 (agg_struct Tryz.underlying121 _) sizeWr (penC_length (k,p) HPL.out).symm (fun j v hj=>by rw [Nat.zero_add];exact HR0.out.cell hj) ⟨rfl,rfl⟩
    · intro az hk H
      rw [if_pos (by decide)]
      intro j hj
      obtain rfl:j=0:=by
        rcases j with _ | _ | _ | j
        · rfl
        · exact absurd hj (by decide)
        · exact absurd hj (by decide)
        · exact absurd hj (by simp)
      refine ⟨wanted_none rfl, ?_⟩
      exact gives_buildSlice rfl [(0, .agg (penC (k,p)).toArray)] (by show [(0,az.eval (.tmp 36))]=_;rw [ev (H 5 rfl _ rfl 36 rfl)];rfl) (build_one (k,p) HPL.out _) ⟨rfl,rfl⟩
    · intro az hk H
      rw [if_pos (by decide)]
      intro j hj
      obtain rfl:j=1:=by
        rcases j with _ | _ | _ | j
        · exact absurd hj (by decide)
        · rfl
        · exact absurd hj (by decide)
        · exact absurd hj (by simp)
      refine ⟨wanted_none rfl, ?_⟩
      exact gives_append rfl (ev (H 4 rfl _ rfl 35 rfl)) (ev (H 6 rfl _ rfl 37 rfl)) hrun ⟨rfl,rfl⟩
    · intro az hk H
      rw [if_neg (by decide)]
      intro j _
      exact .inl ⟨wanted_none rfl,gives_nilCheck rfl (ev (H 0 rfl _ rfl 31 rfl)) ⟨rfl,rfl⟩⟩
    · intro az hk H
      rw [if_neg (by decide)]
      intro j _
      exact .inl ⟨wanted_none rfl,gives_fieldP rfl (ev (H 8 rfl _ rfl 39 rfl)) (run_fieldD1 g _) ⟨rfl,rfl⟩⟩
    · intro az hk H
      rw [if_pos (by decide)]
      intro j hj
      obtain rfl:j=2:=by
        rcases j with _ | _ | _ | j
        · exact absurd hj (by decide)
        · exact absurd hj (by decide)
        · rfl
        · exact absurd hj (by simp)
      refine ⟨wanted_none rfl, ?_⟩
      exact gives_store_one rfl (ev (H 9 rfl _ rfl 40 rfl)) (ev (H 7 rfl _ rfl 38 rfl)) (run_storeP HC2.out HF2.out A' (m + 1) c') ⟨rfl,rfl⟩
  · simp only [setsOf,List.zipIdx_cons,List.zipIdx_nil,List.filterMap_cons,List.filterMap_nil,Option.map_some,Option.map_none,List.foldl_cons,List.foldl_nil,List.setIfInBounds_toArray,List.set_cons_succ,List.set_cons_zero,List.getD_cons_zero,List.getD_cons_succ,Nat.zero_add,List.length_cons,List.length_nil]
    obtain ⟨W3,hW3⟩:∃W3,W3=W2.setCell ⟨g,1,none⟩ (.slice A' (m + 1) c'):=⟨_,rfl⟩
    have HG3:Hid (Rw W3 g 58 ((diskC gd gn A c D).set 1 (.slice A' (m + 1) c'))):=hide (by rw [hW3];exact HB2.out.set 1 _)
    have HV3:Hid (Rw W3 gd 119 (bs D.dur.flatten)):=hide (by rw [hW3];exact HV2.out.far (fun e=>n1 e.symm) _)
    have HL3:Hid (Rw W3 gn 3 (newL D.dur.length D.pen)):=hide (by rw [hW3];exact HL2.out.far (fun e=>n2 e.symm) _)
    have HO3:Hid (W3.ownsRow B 121 513 (.slice A' (m + 1) c') (m + 1) (pensC (D.pen ++ [(k,p)]))):=hide (by
      rw [hW3]
      exact ownsRow_far hown fun a ha=>Below.heap_setCell W2 ⟨g,1,none⟩ _ a.block (HB2.out.apart_own hown (by decide) a ha))
    have HX3:Hid (Dfr g gd gn A w W3):=hide (by
      rw [hW3]
      refine Dfr.trans (A':=A) (Dfr.trans (A':=A) (Dfr.ext (hx3.trans ((Ext.drew _).trans (Ext.alloc _ _)))) ⟨hgr.os,hgr.tape,hgr.output,hgr.size,fun b hb _ _ _ h4=>hgr.block b hb (ne_own h4)⟩ (Newer.refl _ _)) (Dfr.cell 1 _) (Newer.refl _ _))
    have HNW:Hid (Newer w A A'):=hide (fun a' ha' =>by
      rcases hnew a' ha' with h | h
      · exact .inl h
      · refine .inr (Nat.le_trans (Nat.le_trans hx3.size ?_) h)
        simp)
    rw [← hW3]
    have d1:=HG3.out.cell (i:=1) (v:= .slice A' (m + 1) c') rfl
    have d2:=HG3.out.cell (i:=2) (v:= .slice (some ⟨gn,0,none⟩) n n) (by rw [← HN.out];rfl)
    have dn:=HL3.out.cell (i:=k) (newL_get _ _ _ HKN.out)
    have fn:=HL3.out.frozen k
    clear hW3 hgr hown hrun hnew HB2 HV2 HL2 HC2 HF2 HR0 HN1 HD1 HW0 HD3 HR3 k1 l1 hx3 n1 n2 n3 n4 c0 c1 c2 c5 KH hg7
    have hm1:(m:Int) < 1000000:=by have:=HF.out;have:=HM.out;omega
    have HD4:Hid (DiskAt B (W3.setCell ⟨gn,k,none⟩ (.int .i64 ((m:Int) + 1))).drew g gd gn A' c' (D.put k p)):=hide (put_at HG3.out HV3.out HL3.out HO3.out H.out.base HM.out HKN.out)
    have HF4:Hid (Dfr g gd gn A w (W3.setCell ⟨gn,k,none⟩ (.int .i64 ((m:Int) + 1))).drew):=hide (HX3.out.trans (A':=A) ⟨rfl,rfl,rfl,by simp,fun b _ _ _ h3 _=>Below.heap_setCell W3 _ _ b h3⟩ (Newer.refl _ _))
    have HSZ:Hid (w.heap.size≤(W3.setCell ⟨gn,k,none⟩ (.int .i64 ((m:Int) + 1))).drew.heap.size):=hide HF4.out.size
    have KO:=hide (operate_any HD4.out (by show D.ops < _;have:=HOP.out;omega) (by show D.arm < _;exact HAR.out))
    go_wp2
    go_region
    go_wp2_with (go_at_call 77;refine KO.out.mono ?_;rintro e w5 ⟨A5,c5,rfl,hd5,hf5,hn5⟩)
    go_ret
    exact ⟨A5,c5,rfl,hd5,HF4.out.trans hf5 HNW.out,Newer.trans HNW.out hn5 HSZ.out⟩
def ptr (g i:Nat):Value:= .pointer (some ⟨g,i,none⟩)
theorem build_p3 (g:Nat) (W:World):(Instr.buildSlice 127 3 #[(0,ptr g 0),(1,ptr g 1),(2,ptr g 2)]).run Tryz.prog W= .ok (.slice (some ⟨W.heap.size,0,none⟩) 3 3) (W.alloc (.cells #[ptr g 0,ptr g 1,ptr g 2] 151)):=by kernel_rfl
theorem build_p6 (g:Nat) (W:World):(Instr.buildSlice 127 6 #[(0,ptr g 0),(1,ptr g 1),(2,ptr g 2),(3,ptr g 3),(4,ptr g 4),(5,ptr g 5)]).run Tryz.prog W= .ok (.slice (some ⟨W.heap.size,0,none⟩) 6 6) (W.alloc (.cells #[ptr g 0,ptr g 1,ptr g 2,ptr g 3,ptr g 4,ptr g 5] 151)):=by kernel_rfl
def PtrS (g n:Nat) (w:World) (v:Value):Prop:=∃h,v= .slice (some ⟨h,0,none⟩) n n∧∀j,j < n→w.cell? ⟨h,j,none⟩=some (ptr g j)
theorem ptrS_new (g n:Nat) (w:World) (ps:List Value) (hn:ps.length=n) (hp:∀j,j < n→ps[j]? =some (ptr g j)):PtrS g n (w.alloc (.cells ps.toArray 151)) (.slice (some ⟨w.heap.size,0,none⟩) n n):=
 ⟨_,rfl,fun j hj=>(Rw.new w 151 ps).cell (hp j hj)⟩
theorem numbersP_any (g:Nat) (w:World):Calls Tryz.prog 111 #[.pointer (some ⟨g,0,none⟩)] w (fun e w' =>∃v,e= .returned v∧Ext w w'∧PtrS g 3 w' v):=by
 have hb:=build_p3 g
 have HP:=hide (fun W=>ptrS_new g 3 W [ptr g 0,ptr g 1,ptr g 2] rfl (fun j hj=>by rcases j with _ | _ | _ | _;all_goals first | rfl | omega))
 unfold ptr at hb HP
 go_enter Tryz.func111,Tryz.ntmps111
 go_wp2
 go_region
 all_goals
  go_wp2
  go_ret
  exact ⟨_,rfl,(Ext.drew _).trans (Ext.alloc _ _),HP.out _⟩
theorem numbersH_any (g:Nat) (w:World):Calls Tryz.prog 81 #[.pointer (some ⟨g,0,none⟩)] w (fun e w' =>∃v,e= .returned v∧Ext w w'∧PtrS g 6 w' v):=by
 have hb:=build_p6 g
 have HP:=hide (fun W=>ptrS_new g 6 W [ptr g 0,ptr g 1,ptr g 2,ptr g 3,ptr g 4,ptr g 5] rfl (fun j hj=>by rcases j with _ | _ | _ | _ | _ | _ | _;all_goals first | rfl | omega))
 unfold ptr at hb HP
 go_enter Tryz.func81,Tryz.ntmps81
 go_wp2
 go_region
 all_goals
  go_wp2
  go_ret
  exact ⟨_,rfl,(Ext.drew _).trans (Ext.alloc _ _),HP.out _⟩
def durK (kept:Nat→Bool) (dur:List (List UInt8)) (pen:List (Nat×List UInt8)) (k:Nat):List (List UInt8):=(pen.take k).zipIdx.foldl (fun d x=>if kept x.2 then d.set x.1.1 x.1.2 else d) dur
theorem durK_zero (kept:Nat→Bool) (dur:List (List UInt8)) (pen:List (Nat×List UInt8)):durK kept dur pen 0=dur:=rfl
theorem durK_succ (kept:Nat→Bool) (dur:List (List UInt8)) (pen:List (Nat×List UInt8)) (k:Nat) (x:Nat×List UInt8) (h:pen[k]? =some x):durK kept dur pen (k + 1)=if kept k then (durK kept dur pen k).set x.1 x.2 else durK kept dur pen k:=by
 unfold durK
 have hl:(pen.take k).length=k:=by rw [List.length_take];have:=(List.getElem?_eq_some_iff.1 h).1;omega
 rw [List.take_add_one,h,Option.toList_some,List.zipIdx_append,List.foldl_append,hl]
 simp
theorem durK_len (kept:Nat→Bool) (dur:List (List UInt8)) (pen:List (Nat×List UInt8)) (k:Nat):(durK kept dur pen k).length=dur.length:=by
 induction k with
 | zero=>rfl
 | succ k ih=>
  cases h:pen[k]? with
  | none=>
   have hk:=List.getElem?_eq_none_iff.1 h
   unfold durK at ih ⊢
   rw [List.take_of_length_le (by omega)]
   rw [List.take_of_length_le (by omega)] at ih
   exact ih
  | some x=>
   rw [durK_succ _ _ _ _ _ h]
   split
   ·rw [List.length_set];exact ih
   ·exact ih
theorem durK_lens {kept:Nat→Bool} {dur:List (List UInt8)} {pen:List (Nat×List UInt8)} (hd:∀s∈dur,s.length=512) (hp:∀x∈pen,x.2.length=512) (k:Nat):∀s∈durK kept dur pen k,s.length=512:=by
 induction k with
 | zero=>exact hd
 | succ k ih=>
  cases h:pen[k]? with
  | none=>
   have hk:=List.getElem?_eq_none_iff.1 h
   unfold durK at ih ⊢
   rw [List.take_of_length_le (by omega)]
   rw [List.take_of_length_le (by omega)] at ih
   exact ih
  | some x=>
   rw [durK_succ _ _ _ _ _ h]
   split
   ·intro s hs
    rcases List.mem_or_eq_of_mem_set hs with h1 | h1
    ·exact ih s h1
    ·rw [h1];exact hp x (List.mem_of_getElem? h)
   ·exact ih
def newK (n:Nat) (pen:List (Nat×List UInt8)) (k:Nat):List Value:=(List.range n).map fun i=> .int .i64 (if (pen.take k).any (fun x=>x.1==i) then 0 else (lastP pen i:Int))
theorem newK_zero (n:Nat) (pen:List (Nat×List UInt8)):newK n pen 0=newL n pen:=by simp [newK,newL]
theorem newK_get (n:Nat) (pen:List (Nat×List UInt8)) (k i:Nat) (h:i < n):(newK n pen k)[i]? =some (.int .i64 (if (pen.take k).any (fun x=>x.1==i) then 0 else (lastP pen i:Int))):=by
 unfold newK
 rw [List.getElem?_map,List.getElem?_range h]
 rfl
theorem newK_succ (n:Nat) (pen:List (Nat×List UInt8)) (k:Nat) (x:Nat×List UInt8) (h:pen[k]? =some x) (hx:x.1 < n):newK n pen (k + 1)=(newK n pen k).set x.1 (.int .i64 0):=by
 apply List.ext_getElem?
 intro i
 by_cases hi:i < n
 ·rw [newK_get _ _ _ _ hi,List.getElem?_set,List.take_add_one,h,Option.toList_some,List.any_append]
  by_cases he:x.1=i
  ·subst he
   rw [if_pos rfl,if_pos (show x.1 < (newK n pen k).length by simp [newK];exact hi)]
   simp
  ·rw [if_neg he,newK_get _ _ _ _ hi]
   have h2:(x.1==i)=false:=by simpa using he
   rw [show ([x].any fun x=>x.1==i)=(x.1==i) by simp,h2,Bool.or_false]
 ·rw [List.getElem?_eq_none (by simp [newK];omega),List.getElem?_eq_none (by simp [newK];omega)]
theorem newK_all (n:Nat) (pen:List (Nat×List UInt8)) (k:Nat) (hk:pen.length≤k):newK n pen k=newL n []:=by
 unfold newK newL
 rw [List.take_of_length_le hk]
 apply List.map_congr_left
 intro i _
 split
 ·rfl
 ·rename_i hn
  rcases lastP_at _ pen i rfl with h0 | ⟨s,h1,_⟩
  ·rw [h0];rfl
  ·exfalso
   apply hn
   rw [List.any_eq_true]
   exact ⟨_,List.mem_of_getElem? h1,by simp⟩
theorem newK_value (n:Nat) (pen:List (Nat×List UInt8)) (k i:Nat) (h:i < n):∃z:Int,(newK n pen k)[i]? =some (.int .i64 z):=⟨_,newK_get _ _ _ _ h⟩
def Dk.settled (D:Dk) (kept:Nat→Bool):Dk:= { D with dur:=durK kept D.dur D.pen D.pen.length,pen:= [] }
theorem run_fieldW (g i:Nat) (hi:i=0∨i=1) (w:World):(Instr.fieldAt 121 (.pointer (some ⟨g,0,none⟩)) i).run Tryz.prog w= .ok (.pointer (some ⟨g,i,none⟩)) w:=by
 rcases hi with rfl | rfl <;> simp [go_sem]
theorem run_fieldD0 (g:Nat) (w:World):(Instr.fieldAt 58 (.pointer (some ⟨g,0,none⟩)) 0).run Tryz.prog w= .ok (.pointer (some ⟨g,0,none⟩)) w:=by
 simp [go_sem]
theorem gives_load_int {P:Program} {o:Oper} {a:Act} {w:World} {R:Value→World→Prop} {x:Operand} {ty:TypeId} {ad:Addr} {v:Value} {k:IntKind} (h:o.op= .load ty x) (hx:a.eval x= .pointer (some ad)) (hu:P.underlying ty=some (.int k)) (hc:w.cell? ad=some v) (hR:R v w):gives P o a w R:=by
 have hl:(loadVar ty ad).run P w= .ok v w:=by simp [loadVar,isAgg,run_underlying hu,go_sem,hc]
 unfold gives execOp
 simp only [h,hx,Instr.loadAt,Instr.sureAddr,Sem.run_bind,Sem.run_pure,Result.andThen_ok,hl]
 exact hR
theorem gives_indexP {P:Program} {o:Oper} {a:Act} {w:World} {R:Value→World→Prop} {x y:Operand} {t:TypeId} {u z v:Value} (h:o.op= .indexAddr t x y) (hx:a.eval x=u) (hy:a.eval y=z) (hrun:(Instr.indexAt t u z).run P w= .ok v w) (hR:R v w):gives P o a w R:=by
 refine gives_of_run (w':=w) (v:=v) ?_ hR
 unfold execOp
 simp only [h,hx,hy,Sem.run_bind,hrun,Result.andThen_ok,Sem.run_pure]
theorem run_indexS (gd n i:Nat) (h:i < n) (w:World):(Instr.indexAt 54 (.slice (some ⟨gd,0,none⟩) n n) (.int .i64 (i:Int))).run Tryz.prog w= .ok (.pointer (some ⟨gd,i * 512,none⟩)) w:=by
 have hi:(i:Int) < (n:Int):=by omega
 have h0:(0:Int)≤(i:Int):=by omega
 simp [go_sem,Tryz.underlying54,hi,h0,add_flat]
theorem settled_at {B g gd gn c m n:Nat} {W:World} {A:Option Addr} {D:Dk} {kept:Nat→Bool} (hg:Rw W g 58 (diskC gd gn A c D)) (hd:Rw W gd 119 (bs (durK kept D.dur D.pen m).flatten)) (hn:Rw W gn 3 (newK n D.pen m)) (hb:B≤g∧B≤gd∧B≤gn) (hm:D.pen.length=m) (hl:D.dur.length=n):
  DiskAt B (W.setCell ⟨g,1,none⟩ (.slice none 0 0)) g gd gn none 0 (D.settled kept):=by
 have n1:gd≠g:=fun e=>hg.apart hd (by decide) e.symm
 have n2:gn≠g:=fun e=>hg.apart hn (by decide) e.symm
 have e0:(D.settled kept).dur.length=D.dur.length:=durK_len _ _ _ _
 refine ⟨?_, ?_, ?_,World.ownsRow_nil _ _ _ _,hb⟩
 ·have h:=hg.set 1 (.slice none 0 0)
  have e:diskC gd gn none 0 (D.settled kept)=(diskC gd gn A c D).set 1 (.slice none 0 0):=by
   unfold diskC
   rw [e0]
   rfl
  rw [e];exact h
 ·show Rw _ gd 119 (bs (durK kept D.dur D.pen D.pen.length).flatten)
  rw [hm]
  exact hd.far n1 _
 ·rw [e0,hl]
  show Rw _ gn 3 (newL n [])
  rw [← newK_all n D.pen m (by omega)]
  exact hn.far n2 _
theorem lay_flat {L:List (List UInt8)} (h:∀s∈L,s.length=512) {i:Nat} {s:List UInt8} (hi:i < L.length) (hs:s.length=512):lay (bs L.flatten) (i * 512) (bs s)=bs (L.set i s).flatten:=by
 rw [flat_set (m:=512) h (List.getElem?_eq_getElem hi) hs]
 unfold lay
 rw [bs_append,bs_append,bs_length,hs]
 unfold bs
 rw [List.map_take,List.map_drop]
theorem settleY_any {B g gd gn c:Nat} {w:World} {A:Option Addr} {D:Dk} (kept:Nat→Bool) (h:DiskAt B w g gd gn A c D) (ok:D.Ok) (hf:D.pen.length < 1000000) (hB:B≤w.heap.size)
    (KC:∀(k:Nat) (W:World),k < D.pen.length→Dfr g gd gn A w W→Calls Tryz.prog 78 #[.int .i64 (k:Int)] W (Same W (.bool (kept k)))):
    Calls Tryz.prog 43 #[.pointer (some ⟨g,0,none⟩), .func (.func 78) #[] #[]] w (DPost B g gd gn w A (.tuple #[]) (D.settled kept)):=by
  obtain ⟨c0,c1,c2,-,-,-⟩:=disk_cells h
  obtain ⟨m,HM⟩:∃m,Hid (D.pen.length=m):=⟨_,hide rfl⟩
  obtain ⟨n,HN⟩:∃n,Hid (D.dur.length=n):=⟨_,hide rfl⟩
  rw [HM.out] at c1 hf
  have H:=hide h
  have OK:=hide ok
  have HB:=hide hB
  have HKC:=hide KC
  rw [HM.out] at HKC
  clear h ok KC hB c0 c2
  go_enter Tryz.func43,Tryz.ntmps43
  go_wp2
  go_loopw [11] (fun i wr=>∃k:Nat,k≤m∧i= .int .i64 (k:Int)∧Hid (Rw wr g 58 (diskC gd gn A c D))∧Hid (Rw wr gd 119 (bs (durK kept D.dur D.pen k).flatten))∧Hid (Rw wr gn 3 (newK n D.pen k))∧Hid (wr.ownsRow B 121 513 (.slice A D.pen.length c) D.pen.length (pensC D.pen))∧Hid (Dfr g gd gn A w wr)) (fun i _=>m - (intOf i).toNat)
  case atStart=>exact ⟨0,Nat.zero_le _,rfl,hide H.out.blk,hide H.out.dur,hide (by rw [newK_zero,← HN.out];exact H.out.new),hide H.out.pen,hide (Dfr.refl _ _ _ _ _)⟩
  case round=>
    obtain ⟨k,hk,rfl,HG,HV,HL,HO,HX⟩:=hrel
    by_cases hlt:k < m
    · have hki:(k:Int) < (m:Int):=by omega
      have hkp:k < D.pen.length:=by rw [HM.out];exact hlt
      obtain ⟨x,HXG⟩:∃x,Hid (D.pen[k]? =some x):=⟨_,hide (List.getElem?_eq_getElem hkp)⟩
      obtain ⟨hx1,hx2⟩:=OK.out.pen x (List.mem_of_getElem? HXG.out)
      have HX2:=hide hx2
      have HX1:Hid (x.1 < n):=hide (by rw [← HN.out];exact hx1)
      obtain ⟨pb,hpb⟩:∃pb,A=some ⟨pb,0,none⟩:=by
        rcases HO.out.2 with ⟨_,h0⟩ | ⟨g',_,_,hv,_⟩
        · omega
        · injection hv with hv;exact ⟨g',hv⟩
      subst hpb
      have HCP:Hid (∀j v,(penC x)[j]? =some v→wr.cell? ⟨pb,k * 513 + j,none⟩=some v):=hide fun j v hj=>by
        have h1:=HO.out.cells (g:=pb) rfl (k * 513 + j) v (by
          unfold pensC
          rw [flat_get (m:=513) (pensC_lens OK.out.pens) (i:=k) (s:=penC x) (by rw [List.getElem?_map,HXG.out];rfl) (by
            have:=(List.getElem?_eq_some_iff.1 hj).1
            rw [penC_length x HX2.out] at this
            exact this)]
          exact hj)
        rw [add_flat,Nat.zero_add] at h1
        exact h1
      obtain ⟨b,HBK⟩:∃b,Hid (kept k=b):=⟨_,hide rfl⟩
      have KK:=hide fun W (hW:Dfr g gd gn (some ⟨pb,0,none⟩) w W)=>HKC.out k W hlt hW
      rw [HBK.out] at KK
      clear hkp hx1 hx2
      go_upto_if 18 with (first
        | ((with_reducible show wpList _ _ _ (⟨some 15, .load _ _,_,_,_,_⟩::_) _ _);refine wpList_gives (gives_load_at 121 (.tmp 14) rfl pb (k * 513) rfl (penC x) 513 (agg_struct Tryz.underlying121 _) sizeWr (penC_length x HX2.out).symm HCP.out ⟨rfl,rfl⟩) rfl ?_)
        | ((with_reducible show wpList _ _ _ (⟨some 5, .alloc _,_,_,_,_⟩::_) _ _);refine wpList_gives (gives_alloc_z 121 rfl _ 513 zeroWr ⟨rfl,rfl⟩) rfl ?_)
        | ((with_reducible show wpList _ _ _ (⟨none, .store _ (.tmp 5) (.tmp 15),_,_,_,_⟩::_) _ _);
           refine wpList_store_rw rfl 121 (.tmp 5) (.tmp 15) rfl _ rfl (penC x) rfl 121 (penC (0,List.replicate 512 0)) (heap_alloc_new wr _) 513 sizeWr (penC_length x HX2.out).symm (by rw [penC_length x HX2.out,penC_length _ (List.length_replicate ..)]) (List.all_eq_true.2 (penC_one _)) ?_;
           intro w5 hr5 hl5;
           have hx5:Ext wr w5:=(Ext.alloc wr _).laid hl5 (Nat.le_refl _);
           have HR5:=hide hr5;
           have HX5:Hid (Dfr g gd gn (some ⟨pb,0,none⟩) w w5):=hide (HX.out.trans (Dfr.ext hx5) (Newer.refl _ _));clear hr5 hl5)
        | (go_at_call 78;refine (KK.out _ HX5.out).mono ?_;rintro e w6 ⟨rfl,rfl⟩))
      have HG5:=hide (HG.out.ext hx5)
      have HV5:=hide (HV.out.ext hx5)
      have HL5:=hide (HL.out.ext hx5)
      have HO5:Hid (w5.ownsRow B 121 513 (.slice (some ⟨pb,0,none⟩) D.pen.length c) D.pen.length (pensC D.pen)):=hide (ownsRow_far HO.out fun a ha=>Below.block hx5 a.block (by
        rcases HO.out.2 with ⟨h0,_⟩ | ⟨g',_,_,hv,_,hg',_⟩
        · cases h0
        · injection hv with hv;injection hv with hv;injection hv with hv;injection ha with ha;subst hv;subst ha;exact (Array.getElem?_eq_some_iff.1 hg').1))
      have HLEN:Hid ((durK kept D.dur D.pen k).length=n):=hide (by rw [durK_len];exact HN.out)
      have HLNS:=hide (durK_lens (kept:=kept) OK.out.dur OK.out.pens k)
      have HSUC:=hide (durK_succ kept D.dur D.pen k x HXG.out)
      rw [HBK.out] at HSUC
      obtain ⟨g5,hg5⟩:∃g5,g5=wr.heap.size:=⟨_,rfl⟩
      rw [← hg5] at HR5 ⊢
      have HG59:Hid (gd≠g5):=hide (HV5.out.apart HR5.out (by decide))
      clear HG HV HL HO HX HCP KK hx5 hg5
      cases b with
      | true=>
        go_wp2
        have HGd:=hide (HG5.out.ext (Ext.drew _))
        have HVd:=hide (HV5.out.ext (Ext.drew _))
        have HRd:=hide (HR5.out.ext (Ext.drew _))
        refine wp_region_chain [.pointer (some ⟨g,0,none⟩), .pointer (some ⟨g,0,none⟩), .pointer (some ⟨g,0,none⟩), .slice (some ⟨gd,0,none⟩) n n, .pointer (some ⟨g5,0,none⟩), .int .i64 (x.1:Int), .pointer (some ⟨g5,1,none⟩), .agg (bs x.2).toArray, .pointer (some ⟨gd,x.1 * 512,none⟩),undef]
          [w5.drew,w5.drew.setRow gd (lay (bs (durK kept D.dur D.pen k).flatten) (x.1 * 512) (bs x.2)).toArray] [9] (by kernel_rfl) (by kernel_rfl) (by kernel_rfl) rfl ?_ ?_
        · refine ⟨?_, ?_, ?_, ?_, ?_, ?_, ?_, ?_, ?_, ?_,trivial⟩
          · intro az hk H
            rw [if_neg (by decide)]
            intro j _
            refine .inl ⟨wanted_none rfl,gives_move rfl ?_⟩
            rw [ev (show az.tmps[0]? =some (.pointer (some ⟨g,0,none⟩)) from hk 0 rfl)]
            exact ⟨rfl,rfl⟩
          · intro az hk H
            rw [if_neg (by decide)]
            intro j _
            exact .inl ⟨wanted_none rfl,gives_nilCheck rfl (ev (H 0 rfl _ rfl 19 rfl)) ⟨rfl,rfl⟩⟩
          · intro az hk H
            rw [if_neg (by decide)]
            intro j _
            exact .inl ⟨wanted_none rfl,gives_fieldP rfl (ev (H 1 rfl _ rfl 20 rfl)) (run_fieldD0 g _) ⟨rfl,rfl⟩⟩
          · intro az hk H
            rw [if_neg (by decide)]
            intro j hj
            have hj2:j≤0:=hj
            obtain rfl:j=0:=by omega
            exact .inl ⟨wanted_none rfl,gives_load_one rfl (ev (H 2 rfl _ rfl 21 rfl)) Tryz.underlying54 (HGd.out.cell (i:=0) (v:= .slice (some ⟨gd,0,none⟩) n n) (by rw [← HN.out];rfl)) ⟨rfl,rfl⟩⟩
          · intro az hk H
            rw [if_neg (by decide)]
            intro j _
            exact .inl ⟨wanted_none rfl,gives_fieldP rfl (ev (show az.tmps[5]? =some (.pointer (some ⟨g5,0,none⟩)) from hk 5 rfl)) (run_fieldW g5 0 (.inl rfl) _) ⟨rfl,rfl⟩⟩
          · intro az hk H
            rw [if_neg (by decide)]
            intro j hj
            have hj2:j≤0:=hj
            obtain rfl:j=0:=by omega
            exact .inl ⟨wanted_none rfl,gives_load_int rfl (ev (H 4 rfl _ rfl 23 rfl)) Tryz.underlying3 (HRd.out.cell (i:=0) rfl) ⟨rfl,rfl⟩⟩
          · intro az hk H
            rw [if_neg (by decide)]
            intro j _
            exact .inl ⟨wanted_none rfl,gives_fieldP rfl (ev (show az.tmps[5]? =some (.pointer (some ⟨g5,0,none⟩)) from hk 5 rfl)) (run_fieldW g5 1 (.inr rfl) _) ⟨rfl,rfl⟩⟩
          · intro az hk H
            rw [if_neg (by decide)]
            intro j hj
            have hj2:j≤0:=hj
            obtain rfl:j=0:=by omega
            exact .inl ⟨wanted_none rfl,gives_load_at 119 (.tmp 25) rfl g5 1 (ev (H 6 rfl _ rfl 25 rfl)) (bs x.2) 512 (agg_arr Tryz.underlying119 _) sizeSec (by rw [bs_length,HX2.out]) (fun j v hj=>HRd.out.cell (i:=1 + j) (by rw [Nat.add_comm];exact hj)) ⟨rfl,rfl⟩⟩
          · intro az hk H
            rw [if_neg (by decide)]
            intro j _
            exact .inl ⟨wanted_none rfl,gives_indexP rfl (ev (H 3 rfl _ rfl 22 rfl)) (ev (H 5 rfl _ rfl 24 rfl)) (run_indexS gd n x.1 HX1.out _) ⟨rfl,rfl⟩⟩
          · intro az hk H
            rw [if_pos (by decide)]
            intro j hj
            obtain rfl:j=0:=by
              rcases j with _ | j
              · rfl
              · exact absurd hj (by simp)
            refine ⟨wanted_none rfl, ?_⟩
            exact gives_store_at 119 (.tmp 27) (.tmp 26) rfl gd (x.1 * 512) (ev (H 8 rfl _ rfl 27 rfl)) (bs x.2) (ev (H 7 rfl _ rfl 26 rfl)) 119 _ HVd.out (by rw [bs_length,HX2.out];exact sizeSec) (by rw [bs_length,bs_length,HX2.out,flat_len (m:=512) _ HLNS.out,HLEN.out];have:=HX1.out;omega) (bs_one _) ⟨rfl,rfl⟩
        · simp only [setsOf,List.zipIdx_cons,List.zipIdx_nil,List.filterMap_cons,List.filterMap_nil,Option.map_some,Option.map_none,List.foldl_cons,List.foldl_nil,List.setIfInBounds_toArray,List.set_cons_succ,List.set_cons_zero,List.getD_cons_zero,List.getD_cons_succ,Nat.zero_add,List.length_cons,List.length_nil]
          obtain ⟨W6,hW6⟩:∃W6,W6=w5.drew.setRow gd (lay (bs (durK kept D.dur D.pen k).flatten) (x.1 * 512) (bs x.2)).toArray:=⟨_,rfl⟩
          have n1:g≠gd:=HG5.out.apart HV5.out (by decide)
          have n2:gn≠gd:=fun e=>HV5.out.apart HL5.out (by decide) e.symm
          have n3:=HV5.out.apart_own HO5.out (by decide)
          have n4:=HG59.out
          have HG6:Hid (Rw W6 g 58 (diskC gd gn (some ⟨pb,0,none⟩) c D)):=hide (by rw [hW6];exact (setRow_other _ gd g _ n1).trans HGd.out)
          have HV6:Hid (Rw W6 gd 119 (bs (durK kept D.dur D.pen (k + 1)).flatten)):=hide (by
            rw [HSUC.out,if_pos trivial,hW6,← lay_flat HLNS.out (by rw [HLEN.out];exact HX1.out) HX2.out]
            exact Rw.lay HVd.out _ _)
          have HL6:Hid (Rw W6 gn 3 (newK n D.pen k)):=hide (by rw [hW6];exact (setRow_other _ gd gn _ n2).trans (HL5.out.ext (Ext.drew _)))
          have HR6:Hid (Rw W6 g5 121 (penC x)):=hide (by rw [hW6];exact (setRow_other _ gd g5 _ (fun e=>n4 e.symm)).trans HRd.out)
          have HO6:Hid (W6.ownsRow B 121 513 (.slice (some ⟨pb,0,none⟩) D.pen.length c) D.pen.length (pensC D.pen)):=hide (by rw [hW6];exact ownsRow_far HO5.out fun a ha=>setRow_other _ gd a.block _ (n3 a ha))
          have HX6:Hid (Dfr g gd gn (some ⟨pb,0,none⟩) w W6):=hide (by
            rw [hW6]
            exact HX5.out.trans (A':=some ⟨pb,0,none⟩) ⟨rfl,rfl,rfl,by simp [World.setRow],fun b _ _ h2 _ _=>setRow_other w5.drew gd b _ h2⟩ (Newer.refl _ _))
          rw [← hW6]
          clear hW6 n1 n2 n3 n4 HG5 HV5 HL5 HR5 HO5 HX5 HGd HVd HRd HG59
          -- the sector's number in 'newest'
          have c2:=HG6.out.cell (i:=2) (v:= .slice (some ⟨gn,0,none⟩) n n) (by rw [← HN.out];rfl)
          have c50:=HR6.out.cell (i:=0) (v:= .int .i64 (x.1:Int)) rfl
          obtain ⟨z,hz⟩:=newK_value n D.pen k x.1 HX1.out
          have dn:=HL6.out.cell hz
          have fn:=HL6.out.frozen x.1
          have hxi:(x.1:Int) < (n:Int):=by have:=HX1.out;omega
          have hxi0:(0:Int)≤(x.1:Int):=by omega
          clear hz
          go_wp2
          go_region
          go_wp2
          have n6:=HG6.out.apart HL6.out (by decide)
          have n7:=HV6.out.apart HL6.out (by decide)
          have n8:=HL6.out.apart_own HO6.out (by decide)
          refine ⟨⟨k + 1,by omega,by go_num,hide ((HG6.out.far (p:=⟨gn,x.1,none⟩) n6 _).ext (Ext.drew _)),hide ((HV6.out.far (p:=⟨gn,x.1,none⟩) n7 _).ext (Ext.drew _)),hide ?_,hide (ownsRow_far HO6.out fun a ha=>Below.heap_setCell W6 ⟨gn,x.1,none⟩ _ a.block (n8 a ha)),hide (HX6.out.trans (A':=some ⟨pb,0,none⟩) ⟨rfl,rfl,rfl,by simp,fun b _ _ _ h3 _=>Below.heap_setCell W6 ⟨gn,x.1,none⟩ _ b h3⟩ (Newer.refl _ _))⟩,by simp [intOf];omega⟩
          rw [newK_succ n D.pen k x HXG.out HX1.out]
          exact (HL6.out.set x.1 (.int .i64 0)).ext (Ext.drew _)
      | false=>
        obtain ⟨W6,hW6⟩:∃W6,W6=w5:=⟨_,rfl⟩
        have HG6:=HG5
        have HV6:Hid (Rw w5 gd 119 (bs (durK kept D.dur D.pen (k + 1)).flatten)):=hide (by rw [HSUC.out,if_neg (by simp)];exact HV5.out)
        have HL6:=HL5
        have HR6:=HR5
        have HO6:=HO5
        have HX6:=HX5
        rw [← hW6] at HG6 HV6 HL6 HR6 HO6 HX6 ⊢
        clear hW6 HG5 HV5 HL5 HR5 HO5 HX5 HG59
        -- the sector's number in 'newest'
        have c2:=HG6.out.cell (i:=2) (v:= .slice (some ⟨gn,0,none⟩) n n) (by rw [← HN.out];rfl)
        have c50:=HR6.out.cell (i:=0) (v:= .int .i64 (x.1:Int)) rfl
        obtain ⟨z,hz⟩:=newK_value n D.pen k x.1 HX1.out
        have dn:=HL6.out.cell hz
        have fn:=HL6.out.frozen x.1
        have hxi:(x.1:Int) < (n:Int):=by have:=HX1.out;omega
        have hxi0:(0:Int)≤(x.1:Int):=by omega
        clear hz
        go_wp2
        go_region
        go_wp2
        have n6:=HG6.out.apart HL6.out (by decide)
        have n7:=HV6.out.apart HL6.out (by decide)
        have n8:=HL6.out.apart_own HO6.out (by decide)
        refine ⟨⟨k + 1,by omega,by go_num,hide ((HG6.out.far (p:=⟨gn,x.1,none⟩) n6 _).ext (Ext.drew _)),hide ((HV6.out.far (p:=⟨gn,x.1,none⟩) n7 _).ext (Ext.drew _)),hide ?_,hide (ownsRow_far HO6.out fun a ha=>Below.heap_setCell W6 ⟨gn,x.1,none⟩ _ a.block (n8 a ha)),hide (HX6.out.trans (A':=some ⟨pb,0,none⟩) ⟨rfl,rfl,rfl,by simp,fun b _ _ _ h3 _=>Below.heap_setCell W6 ⟨gn,x.1,none⟩ _ b h3⟩ (Newer.refl _ _))⟩,by simp [intOf];omega⟩
        rw [newK_succ n D.pen k x HXG.out HX1.out]
        exact (HL6.out.set x.1 (.int .i64 0)).ext (Ext.drew _)
    · obtain rfl:k=m:=by omega
      have hki:¬(k:Int) < (k:Int):=Int.lt_irrefl _
      have c1':=HG.out.cell (i:=1) (v:= .slice A k c) (by rw [← HM.out];rfl)
      have f1:=HG.out.frozen 1
      go_wp2
      go_end0
      exact ⟨none,0,rfl,settled_at HG.out HV.out HL.out H.out.base HM.out HN.out,HX.out.trans (A':=A) (Dfr.cell 1 _) (Newer.refl _ _),fun a' ha' =>by cases ha'⟩
theorem kept_all (k:Nat) (W:World):Calls Tryz.prog 78 #[.int .i64 (k:Int)] W (Same W (.bool true)):=by
 go_enter Tryz.func78,Tryz.ntmps78
 go_wp2
 go_ret
 exact ⟨rfl,rfl⟩
theorem Dk.op_ok {D:Dk} (ok:D.Ok):D.op.Ok:=⟨ok.pos,ok.max,ok.dur,ok.pen⟩
section
variable {B g gd gn c:Nat} {w:World} {A:Option Addr} {D:Dk}
theorem sync_any (h:DiskAt B w g gd gn A c D) (ok:D.Ok) (hoff:D.off=false) (ha1:D.arm≠1) (ha:D.arm < 9223372036854775808) (hf:D.pen.length < 1000000) (ho:D.ops < 1000000) (hB:B≤w.heap.size):
  Calls Tryz.prog 47 #[.pointer (some ⟨g,0,none⟩)] w (DPost B g gd gn w A (.int .i64 0) (D.op.settled fun _=>true)):=by
 obtain ⟨-,-,-,-,-,c5⟩:=disk_cells h
 rw [hoff] at c5
 have KO:=operate_any h (by omega) ha
 rw [show D.opE=0 from by unfold Dk.opE;rw [if_neg ha1]] at KO
 have HKO:=hide KO
 have KS:Hid (∀(w2:World) (A2:Option Addr) (c2:Nat),DiskAt B w2 g gd gn A2 c2 D.op→B≤w2.heap.size→Calls Tryz.prog 43 #[.pointer (some ⟨g,0,none⟩), .func (.func 78) #[] #[]] w2 (DPost B g gd gn w2 A2 (.tuple #[]) (D.op.settled fun _=>true))):=
  hide fun w2 A2 c2 h2 hB2=>settleY_any (fun _=>true) h2 (Dk.op_ok ok) hf hB2 (fun k W _ _=>kept_all k W)
 have HB:=hide hB
 clear KO h ok hoff ha1 ha hf ho hB
 go_enter Tryz.func47,Tryz.ntmps47
 go_wp2_with (first
  | (go_at_call 77;(with_reducible refine HKO.out.mono ?_);rintro e w2 ⟨A2,c2,rfl,hd2,hf2,hn2⟩;have H2:=hide hd2;have F2:=hide hf2;have N2:=hide hn2;have B2:=hide (Nat.le_trans HB.out hf2.size);clear hd2 hf2 hn2)
  | (go_at_call 43;(with_reducible refine (KS.out _ _ _ H2.out B2.out).mono ?_);rintro e w3 ⟨A3,c3,rfl,hd3,hf3,hn3⟩;have H3:=hide hd3;have F3:=hide hf3;have N3:=hide hn3;clear hd3 hf3 hn3))
 go_ret
 exact ⟨A3,c3,rfl,H3.out,F2.out.trans F3.out N2.out,Newer.trans N2.out N3.out F2.out.size⟩
theorem sync_fall (h:DiskAt B w g gd gn A c D) (hoff:D.off=false) (ha1:D.arm=1) (ho:D.ops < 1000000):
  Calls Tryz.prog 47 #[.pointer (some ⟨g,0,none⟩)] w (DPost B g gd gn w A (.int .i64 8) D.op):=by
 obtain ⟨-,-,-,-,-,c5⟩:=disk_cells h
 rw [hoff] at c5
 have KO:=operate_any h (by omega) (by omega)
 rw [show D.opE=8 from by unfold Dk.opE;rw [if_pos ha1]] at KO
 have HKO:=hide KO
 clear KO h hoff ha1 ho
 go_enter Tryz.func47,Tryz.ntmps47
 go_wp2_with (go_at_call 77;(with_reducible refine HKO.out.mono ?_);rintro e w2 ⟨A2,c2,rfl,hd2,hf2,hn2⟩;have H2:=hide hd2;have F2:=hide hf2;have N2:=hide hn2;clear hd2 hf2 hn2)
 go_ret
 exact ⟨A2,c2,rfl,H2.out,F2.out,N2.out⟩
theorem sync_off (h:DiskAt B w g gd gn A c D) (hoff:D.off=true):Calls Tryz.prog 47 #[.pointer (some ⟨g,0,none⟩)] w (Same w (.int .i64 8)):=by
 obtain ⟨-,-,-,-,-,c5⟩:=disk_cells h
 rw [hoff] at c5
 clear h hoff
 go_enter Tryz.func47,Tryz.ntmps47
 go_wp2
 go_ret
 exact ⟨rfl,rfl⟩
theorem len_any (h:DiskAt B w g gd gn A c D):Calls Tryz.prog 27 #[.pointer (some ⟨g,0,none⟩)] w (Same w (.int .i64 (D.dur.length:Int))):=by
 obtain ⟨c0,-⟩:=disk_cells h
 clear h
 go_enter Tryz.func27,Tryz.ntmps27
 go_wp2
 go_ret
 exact ⟨rfl,rfl⟩
theorem on_any (h:DiskAt B w g gd gn A c D):Calls Tryz.prog 57 #[.pointer (some ⟨g,0,none⟩)] w (Same w (.bool (!D.off))):=by
 obtain ⟨-,-,-,-,-,c5⟩:=disk_cells h
 clear h
 obtain ⟨b,hb⟩:∃b,D.off=b:=⟨_,rfl⟩
 rw [hb] at c5 ⊢
 cases b
 all_goals
  go_enter Tryz.func57,Tryz.ntmps57
  go_wp2
  go_ret
  exact ⟨rfl,rfl⟩
end
theorem settleR_any {B g gd gn c gk:Nat} {w:World} {A:Option Addr} {D:Dk} (kept:Nat→Bool) (h:DiskAt B w g gd gn A c D) (ok:D.Ok) (hf:D.pen.length < 1000000) (hB:B≤w.heap.size)
    (KC:∀(k:Nat) (W:World),k < D.pen.length→Dfr g gd gn A w W→Calls Tryz.prog 44 #[.int .i64 (k:Int), .pointer (some ⟨gk,0,none⟩)] W (Same W (.bool (kept k)))):
    Calls Tryz.prog 43 #[.pointer (some ⟨g,0,none⟩), .func (.func 44) #[] #[.pointer (some ⟨gk,0,none⟩)]] w (DPost B g gd gn w A (.tuple #[]) (D.settled kept)):=by
  obtain ⟨c0,c1,c2,-,-,-⟩:=disk_cells h
  obtain ⟨m,HM⟩:∃m,Hid (D.pen.length=m):=⟨_,hide rfl⟩
  obtain ⟨n,HN⟩:∃n,Hid (D.dur.length=n):=⟨_,hide rfl⟩
  rw [HM.out] at c1 hf
  have H:=hide h
  have OK:=hide ok
  have HB:=hide hB
  have HKC:=hide KC
  rw [HM.out] at HKC
  clear h ok KC hB c0 c2
  go_enter Tryz.func43,Tryz.ntmps43
  go_wp2
  go_loopw [11] (fun i wr=>∃k:Nat,k≤m∧i= .int .i64 (k:Int)∧Hid (Rw wr g 58 (diskC gd gn A c D))∧Hid (Rw wr gd 119 (bs (durK kept D.dur D.pen k).flatten))∧Hid (Rw wr gn 3 (newK n D.pen k))∧Hid (wr.ownsRow B 121 513 (.slice A D.pen.length c) D.pen.length (pensC D.pen))∧Hid (Dfr g gd gn A w wr)) (fun i _=>m - (intOf i).toNat)
  case atStart=>exact ⟨0,Nat.zero_le _,rfl,hide H.out.blk,hide H.out.dur,hide (by rw [newK_zero,← HN.out];exact H.out.new),hide H.out.pen,hide (Dfr.refl _ _ _ _ _)⟩
  case round=>
    obtain ⟨k,hk,rfl,HG,HV,HL,HO,HX⟩:=hrel
    by_cases hlt:k < m
    · have hki:(k:Int) < (m:Int):=by omega
      have hkp:k < D.pen.length:=by rw [HM.out];exact hlt
      obtain ⟨x,HXG⟩:∃x,Hid (D.pen[k]? =some x):=⟨_,hide (List.getElem?_eq_getElem hkp)⟩
      obtain ⟨hx1,hx2⟩:=OK.out.pen x (List.mem_of_getElem? HXG.out)
      have HX2:=hide hx2
      have HX1:Hid (x.1 < n):=hide (by rw [← HN.out];exact hx1)
      obtain ⟨pb,hpb⟩:∃pb,A=some ⟨pb,0,none⟩:=by
        rcases HO.out.2 with ⟨_,h0⟩ | ⟨g',_,_,hv,_⟩
        · omega
        · injection hv with hv;exact ⟨g',hv⟩
      subst hpb
      have HCP:Hid (∀j v,(penC x)[j]? =some v→wr.cell? ⟨pb,k * 513 + j,none⟩=some v):=hide fun j v hj=>by
        have h1:=HO.out.cells (g:=pb) rfl (k * 513 + j) v (by
          unfold pensC
          rw [flat_get (m:=513) (pensC_lens OK.out.pens) (i:=k) (s:=penC x) (by rw [List.getElem?_map,HXG.out];rfl) (by
            have:=(List.getElem?_eq_some_iff.1 hj).1
            rw [penC_length x HX2.out] at this
            exact this)]
          exact hj)
        rw [add_flat,Nat.zero_add] at h1
        exact h1
      obtain ⟨b,HBK⟩:∃b,Hid (kept k=b):=⟨_,hide rfl⟩
      have KK:=hide fun W (hW:Dfr g gd gn (some ⟨pb,0,none⟩) w W)=>HKC.out k W hlt hW
      rw [HBK.out] at KK
      clear hkp hx1 hx2
      go_upto_if 18 with (first
        | ((with_reducible show wpList _ _ _ (⟨some 15, .load _ _,_,_,_,_⟩::_) _ _);refine wpList_gives (gives_load_at 121 (.tmp 14) rfl pb (k * 513) rfl (penC x) 513 (agg_struct Tryz.underlying121 _) sizeWr (penC_length x HX2.out).symm HCP.out ⟨rfl,rfl⟩) rfl ?_)
        | ((with_reducible show wpList _ _ _ (⟨some 5, .alloc _,_,_,_,_⟩::_) _ _);refine wpList_gives (gives_alloc_z 121 rfl _ 513 zeroWr ⟨rfl,rfl⟩) rfl ?_)
        | ((with_reducible show wpList _ _ _ (⟨none, .store _ (.tmp 5) (.tmp 15),_,_,_,_⟩::_) _ _);
           refine wpList_store_rw rfl 121 (.tmp 5) (.tmp 15) rfl _ rfl (penC x) rfl 121 (penC (0,List.replicate 512 0)) (heap_alloc_new wr _) 513 sizeWr (penC_length x HX2.out).symm (by rw [penC_length x HX2.out,penC_length _ (List.length_replicate ..)]) (List.all_eq_true.2 (penC_one _)) ?_;
           intro w5 hr5 hl5;
           have hx5:Ext wr w5:=(Ext.alloc wr _).laid hl5 (Nat.le_refl _);
           have HR5:=hide hr5;
           have HX5:Hid (Dfr g gd gn (some ⟨pb,0,none⟩) w w5):=hide (HX.out.trans (Dfr.ext hx5) (Newer.refl _ _));clear hr5 hl5)
        | (go_at_call 44;refine (KK.out _ HX5.out).mono ?_;rintro e w6 ⟨rfl,rfl⟩))
      have HG5:=hide (HG.out.ext hx5)
      have HV5:=hide (HV.out.ext hx5)
      have HL5:=hide (HL.out.ext hx5)
      have HO5:Hid (w5.ownsRow B 121 513 (.slice (some ⟨pb,0,none⟩) D.pen.length c) D.pen.length (pensC D.pen)):=hide (ownsRow_far HO.out fun a ha=>Below.block hx5 a.block (by
        rcases HO.out.2 with ⟨h0,_⟩ | ⟨g',_,_,hv,_,hg',_⟩
        · cases h0
        · injection hv with hv;injection hv with hv;injection hv with hv;injection ha with ha;subst hv;subst ha;exact (Array.getElem?_eq_some_iff.1 hg').1))
      have HLEN:Hid ((durK kept D.dur D.pen k).length=n):=hide (by rw [durK_len];exact HN.out)
      have HLNS:=hide (durK_lens (kept:=kept) OK.out.dur OK.out.pens k)
      have HSUC:=hide (durK_succ kept D.dur D.pen k x HXG.out)
      rw [HBK.out] at HSUC
      obtain ⟨g5,hg5⟩:∃g5,g5=wr.heap.size:=⟨_,rfl⟩
      rw [← hg5] at HR5 ⊢
      have HG59:Hid (gd≠g5):=hide (HV5.out.apart HR5.out (by decide))
      clear HG HV HL HO HX HCP KK hx5 hg5
      cases b with
      | true=>
        go_wp2
        have HGd:=hide (HG5.out.ext (Ext.drew _))
        have HVd:=hide (HV5.out.ext (Ext.drew _))
        have HRd:=hide (HR5.out.ext (Ext.drew _))
        refine wp_region_chain [.pointer (some ⟨g,0,none⟩), .pointer (some ⟨g,0,none⟩), .pointer (some ⟨g,0,none⟩), .slice (some ⟨gd,0,none⟩) n n, .pointer (some ⟨g5,0,none⟩), .int .i64 (x.1:Int), .pointer (some ⟨g5,1,none⟩), .agg (bs x.2).toArray, .pointer (some ⟨gd,x.1 * 512,none⟩),undef]
          [w5.drew,w5.drew.setRow gd (lay (bs (durK kept D.dur D.pen k).flatten) (x.1 * 512) (bs x.2)).toArray] [9] (by kernel_rfl) (by kernel_rfl) (by kernel_rfl) rfl ?_ ?_
        · refine ⟨?_, ?_, ?_, ?_, ?_, ?_, ?_, ?_, ?_, ?_,trivial⟩
          · intro az hk H
            rw [if_neg (by decide)]
            intro j _
            refine .inl ⟨wanted_none rfl,gives_move rfl ?_⟩
            rw [ev (show az.tmps[0]? =some (.pointer (some ⟨g,0,none⟩)) from hk 0 rfl)]
            exact ⟨rfl,rfl⟩
          · intro az hk H
            rw [if_neg (by decide)]
            intro j _
            exact .inl ⟨wanted_none rfl,gives_nilCheck rfl (ev (H 0 rfl _ rfl 19 rfl)) ⟨rfl,rfl⟩⟩
          · intro az hk H
            rw [if_neg (by decide)]
            intro j _
            exact .inl ⟨wanted_none rfl,gives_fieldP rfl (ev (H 1 rfl _ rfl 20 rfl)) (run_fieldD0 g _) ⟨rfl,rfl⟩⟩
          · intro az hk H
            rw [if_neg (by decide)]
            intro j hj
            have hj2:j≤0:=hj
            obtain rfl:j=0:=by omega
            exact .inl ⟨wanted_none rfl,gives_load_one rfl (ev (H 2 rfl _ rfl 21 rfl)) Tryz.underlying54 (HGd.out.cell (i:=0) (v:= .slice (some ⟨gd,0,none⟩) n n) (by rw [← HN.out];rfl)) ⟨rfl,rfl⟩⟩
          · intro az hk H
            rw [if_neg (by decide)]
            intro j _
            exact .inl ⟨wanted_none rfl,gives_fieldP rfl (ev (show az.tmps[5]? =some (.pointer (some ⟨g5,0,none⟩)) from hk 5 rfl)) (run_fieldW g5 0 (.inl rfl) _) ⟨rfl,rfl⟩⟩
          · intro az hk H
            rw [if_neg (by decide)]
            intro j hj
            have hj2:j≤0:=hj
            obtain rfl:j=0:=by omega
            exact .inl ⟨wanted_none rfl,gives_load_int rfl (ev (H 4 rfl _ rfl 23 rfl)) Tryz.underlying3 (HRd.out.cell (i:=0) rfl) ⟨rfl,rfl⟩⟩
          · intro az hk H
            rw [if_neg (by decide)]
            intro j _
            exact .inl ⟨wanted_none rfl,gives_fieldP rfl (ev (show az.tmps[5]? =some (.pointer (some ⟨g5,0,none⟩)) from hk 5 rfl)) (run_fieldW g5 1 (.inr rfl) _) ⟨rfl,rfl⟩⟩
          · intro az hk H
            rw [if_neg (by decide)]
            intro j hj
            have hj2:j≤0:=hj
            obtain rfl:j=0:=by omega
            exact .inl ⟨wanted_none rfl,gives_load_at 119 (.tmp 25) rfl g5 1 (ev (H 6 rfl _ rfl 25 rfl)) (bs x.2) 512 (agg_arr Tryz.underlying119 _) sizeSec (by rw [bs_length,HX2.out]) (fun j v hj=>HRd.out.cell (i:=1 + j) (by rw [Nat.add_comm];exact hj)) ⟨rfl,rfl⟩⟩
          · intro az hk H
            rw [if_neg (by decide)]
            intro j _
            exact .inl ⟨wanted_none rfl,gives_indexP rfl (ev (H 3 rfl _ rfl 22 rfl)) (ev (H 5 rfl _ rfl 24 rfl)) (run_indexS gd n x.1 HX1.out _) ⟨rfl,rfl⟩⟩
          · intro az hk H
            rw [if_pos (by decide)]
            intro j hj
            obtain rfl:j=0:=by
              rcases j with _ | j
              · rfl
              · exact absurd hj (by simp)
            refine ⟨wanted_none rfl, ?_⟩
            exact gives_store_at 119 (.tmp 27) (.tmp 26) rfl gd (x.1 * 512) (ev (H 8 rfl _ rfl 27 rfl)) (bs x.2) (ev (H 7 rfl _ rfl 26 rfl)) 119 _ HVd.out (by rw [bs_length,HX2.out];exact sizeSec) (by rw [bs_length,bs_length,HX2.out,flat_len (m:=512) _ HLNS.out,HLEN.out];have:=HX1.out;omega) (bs_one _) ⟨rfl,rfl⟩
        · simp only [setsOf,List.zipIdx_cons,List.zipIdx_nil,List.filterMap_cons,List.filterMap_nil,Option.map_some,Option.map_none,List.foldl_cons,List.foldl_nil,List.setIfInBounds_toArray,List.set_cons_succ,List.set_cons_zero,List.getD_cons_zero,List.getD_cons_succ,Nat.zero_add,List.length_cons,List.length_nil]
          obtain ⟨W6,hW6⟩:∃W6,W6=w5.drew.setRow gd (lay (bs (durK kept D.dur D.pen k).flatten) (x.1 * 512) (bs x.2)).toArray:=⟨_,rfl⟩
          have n1:g≠gd:=HG5.out.apart HV5.out (by decide)
          have n2:gn≠gd:=fun e=>HV5.out.apart HL5.out (by decide) e.symm
          have n3:=HV5.out.apart_own HO5.out (by decide)
          have n4:=HG59.out
          have HG6:Hid (Rw W6 g 58 (diskC gd gn (some ⟨pb,0,none⟩) c D)):=hide (by rw [hW6];exact (setRow_other _ gd g _ n1).trans HGd.out)
          have HV6:Hid (Rw W6 gd 119 (bs (durK kept D.dur D.pen (k + 1)).flatten)):=hide (by
            rw [HSUC.out,if_pos trivial,hW6,← lay_flat HLNS.out (by rw [HLEN.out];exact HX1.out) HX2.out]
            exact Rw.lay HVd.out _ _)
          have HL6:Hid (Rw W6 gn 3 (newK n D.pen k)):=hide (by rw [hW6];exact (setRow_other _ gd gn _ n2).trans (HL5.out.ext (Ext.drew _)))
          have HR6:Hid (Rw W6 g5 121 (penC x)):=hide (by rw [hW6];exact (setRow_other _ gd g5 _ (fun e=>n4 e.symm)).trans HRd.out)
          have HO6:Hid (W6.ownsRow B 121 513 (.slice (some ⟨pb,0,none⟩) D.pen.length c) D.pen.length (pensC D.pen)):=hide (by rw [hW6];exact ownsRow_far HO5.out fun a ha=>setRow_other _ gd a.block _ (n3 a ha))
          have HX6:Hid (Dfr g gd gn (some ⟨pb,0,none⟩) w W6):=hide (by
            rw [hW6]
            exact HX5.out.trans (A':=some ⟨pb,0,none⟩) ⟨rfl,rfl,rfl,by simp [World.setRow],fun b _ _ h2 _ _=>setRow_other w5.drew gd b _ h2⟩ (Newer.refl _ _))
          rw [← hW6]
          clear hW6 n1 n2 n3 n4 HG5 HV5 HL5 HR5 HO5 HX5 HGd HVd HRd HG59
          -- the sector's number in 'newest'
          have c2:=HG6.out.cell (i:=2) (v:= .slice (some ⟨gn,0,none⟩) n n) (by rw [← HN.out];rfl)
          have c50:=HR6.out.cell (i:=0) (v:= .int .i64 (x.1:Int)) rfl
          obtain ⟨z,hz⟩:=newK_value n D.pen k x.1 HX1.out
          have dn:=HL6.out.cell hz
          have fn:=HL6.out.frozen x.1
          have hxi:(x.1:Int) < (n:Int):=by have:=HX1.out;omega
          have hxi0:(0:Int)≤(x.1:Int):=by omega
          clear hz
          go_wp2
          go_region
          go_wp2
          have n6:=HG6.out.apart HL6.out (by decide)
          have n7:=HV6.out.apart HL6.out (by decide)
          have n8:=HL6.out.apart_own HO6.out (by decide)
          refine ⟨⟨k + 1,by omega,by go_num,hide ((HG6.out.far (p:=⟨gn,x.1,none⟩) n6 _).ext (Ext.drew _)),hide ((HV6.out.far (p:=⟨gn,x.1,none⟩) n7 _).ext (Ext.drew _)),hide ?_,hide (ownsRow_far HO6.out fun a ha=>Below.heap_setCell W6 ⟨gn,x.1,none⟩ _ a.block (n8 a ha)),hide (HX6.out.trans (A':=some ⟨pb,0,none⟩) ⟨rfl,rfl,rfl,by simp,fun b _ _ _ h3 _=>Below.heap_setCell W6 ⟨gn,x.1,none⟩ _ b h3⟩ (Newer.refl _ _))⟩,by simp [intOf];omega⟩
          rw [newK_succ n D.pen k x HXG.out HX1.out]
          exact (HL6.out.set x.1 (.int .i64 0)).ext (Ext.drew _)
      | false=>
        obtain ⟨W6,hW6⟩:∃W6,W6=w5:=⟨_,rfl⟩
        have HG6:=HG5
        have HV6:Hid (Rw w5 gd 119 (bs (durK kept D.dur D.pen (k + 1)).flatten)):=hide (by rw [HSUC.out,if_neg (by simp)];exact HV5.out)
        have HL6:=HL5
        have HR6:=HR5
        have HO6:=HO5
        have HX6:=HX5
        rw [← hW6] at HG6 HV6 HL6 HR6 HO6 HX6 ⊢
        clear hW6 HG5 HV5 HL5 HR5 HO5 HX5 HG59
        -- the sector's number in 'newest'
        have c2:=HG6.out.cell (i:=2) (v:= .slice (some ⟨gn,0,none⟩) n n) (by rw [← HN.out];rfl)
        have c50:=HR6.out.cell (i:=0) (v:= .int .i64 (x.1:Int)) rfl
        obtain ⟨z,hz⟩:=newK_value n D.pen k x.1 HX1.out
        have dn:=HL6.out.cell hz
        have fn:=HL6.out.frozen x.1
        have hxi:(x.1:Int) < (n:Int):=by have:=HX1.out;omega
        have hxi0:(0:Int)≤(x.1:Int):=by omega
        clear hz
        go_wp2
        go_region
        go_wp2
        have n6:=HG6.out.apart HL6.out (by decide)
        have n7:=HV6.out.apart HL6.out (by decide)
        have n8:=HL6.out.apart_own HO6.out (by decide)
        refine ⟨⟨k + 1,by omega,by go_num,hide ((HG6.out.far (p:=⟨gn,x.1,none⟩) n6 _).ext (Ext.drew _)),hide ((HV6.out.far (p:=⟨gn,x.1,none⟩) n7 _).ext (Ext.drew _)),hide ?_,hide (ownsRow_far HO6.out fun a ha=>Below.heap_setCell W6 ⟨gn,x.1,none⟩ _ a.block (n8 a ha)),hide (HX6.out.trans (A':=some ⟨pb,0,none⟩) ⟨rfl,rfl,rfl,by simp,fun b _ _ _ h3 _=>Below.heap_setCell W6 ⟨gn,x.1,none⟩ _ b h3⟩ (Newer.refl _ _))⟩,by simp [intOf];omega⟩
        rw [newK_succ n D.pen k x HXG.out HX1.out]
        exact (HL6.out.set x.1 (.int .i64 0)).ext (Ext.drew _)
    · obtain rfl:k=m:=by omega
      have hki:¬(k:Int) < (k:Int):=Int.lt_irrefl _
      have c1':=HG.out.cell (i:=1) (v:= .slice A k c) (by rw [← HM.out];rfl)
      have f1:=HG.out.frozen 1
      go_wp2
      go_end0
      exact ⟨none,0,rfl,settled_at HG.out HV.out HL.out H.out.base HM.out HN.out,HX.out.trans (A':=A) (Dfr.cell 1 _) (Newer.refl _ _),fun a' ha' =>by cases ha'⟩
def RdB (w:World) (P:Option Addr) (l:List Bool):Prop:=l≠ []→∃b off,P=some ⟨b,off,none⟩∧∀j v,l[j]? =some v→w.cell? ⟨b,off + j,none⟩=some (.bool v)
theorem keep_any (gk k ck:Nat) (P:Option Addr) (keep:List Bool) (W:World) (hc:W.cell? ⟨gk,0,none⟩=some (.slice P keep.length ck)) (hr:RdB W P keep):
  Calls Tryz.prog 44 #[.int .i64 (k:Int), .pointer (some ⟨gk,0,none⟩)] W (Same W (.bool (keep.getD k false))):=by
 obtain ⟨m,HM⟩:∃m,Hid (keep.length=m):=⟨_,hide rfl⟩
 rw [HM.out] at hc
 by_cases hlt:k < m
 ·obtain ⟨v,hv⟩:∃v,keep[k]? =some v:=⟨_,List.getElem?_eq_getElem (by rw [HM.out];exact hlt)⟩
  obtain ⟨b,off,rfl,hq⟩:=hr (by intro e;rw [e] at hv;cases hv)
  have hck:=hq k v hv
  rw [List.getD_eq_getElem?_getD,hv,Option.getD_some]
  have hki:(k:Int) < (m:Int):=by omega
  have hk0:(0:Int)≤(k:Int):=by omega
  clear hq hr hv HM hlt
  go_enter Tryz.func44,Tryz.ntmps44
  go_wp2
  go_ret
  exact ⟨rfl,rfl⟩
 ·rw [List.getD_eq_getElem?_getD,List.getElem?_eq_none (by rw [HM.out];omega),Option.getD_none]
  have hki:¬(k:Int) < (m:Int):=by omega
  clear hr HM hlt
  go_enter Tryz.func44,Tryz.ntmps44
  go_wp2
  go_ret
  exact ⟨rfl,rfl⟩
def Dk.fallen (D:Dk) (keep:List Bool):Dk:= { D with dur:=durK (fun k=>keep.getD k false) D.dur D.pen D.pen.length,pen:= [],arm:=0,off:=false }
theorem restart_any {B g gd gn c ck:Nat} {w:World} {A P:Option Addr} {D:Dk} (h:DiskAt B w g gd gn A c D) (ok:D.Ok) (hf:D.pen.length < 1000000) (hB:B≤w.heap.size) (keep:List Bool) (hk:∀W,Dfr g gd gn A w W→RdB W P keep):
  Calls Tryz.prog 22 #[.pointer (some ⟨g,0,none⟩), .slice P keep.length ck] w (DPost B g gd gn w A (.int .i64 0) (D.fallen keep)):=by
 have lg:=h.blk.lt
 have ld:=h.dur.lt
 have ln:=h.new.lt
 have lA:∀a,A=some a→a.block < w.heap.size:=fun a ha=>by
  rcases h.pen.2 with ⟨hv,_⟩ | ⟨g',_,_,hv,_,hg',_⟩
  ·injection hv with hv;rw [ha] at hv;cases hv
  ·injection hv with hv;rw [ha] at hv;injection hv with hv;subst hv;exact (Array.getElem?_eq_some_iff.1 hg').1
 obtain ⟨w1,hw1⟩:∃w1,w1=w.alloc (.cells #[.slice P keep.length ck] 43):=⟨_,rfl⟩
 have hx1:Ext w w1:=by rw [hw1];exact Ext.alloc _ _
 have hr1:Rw w1 w.heap.size 43 [.slice P keep.length ck]:=by rw [hw1];exact Rw.new _ _ _
 have KS:=hide (settleR_any (gk:=w.heap.size) (fun k=>keep.getD k false) (h.ext hx1) ok hf (Nat.le_trans hB hx1.size) (fun k W hkl hW=>by
  have hr2:Rw W w.heap.size 43 [.slice P keep.length ck]:=(hW.other _ hr1.lt (by omega) (by omega) (by omega) (fun a ha e=>by have:=lA a ha;omega)).trans hr1
  exact keep_any w.heap.size k ck P keep W (hr2.cell rfl) (hk W ((Dfr.ext hx1).trans (A':=A) hW (Newer.refl _ _)))))
 have HX1:=hide hx1
 obtain ⟨m,HM⟩:∃m,Hid (keep.length=m):=⟨_,hide rfl⟩
 rw [HM.out] at hw1 ⊢
 have HW1:=hide hw1
 clear h ok hf hB hk lg ld ln lA hx1 hr1 hw1
 go_enter Tryz.func22,Tryz.ntmps22
 go_upto_region 4 with (go_at_call 43;(try rw [← HW1.out]);refine KS.out.mono ?_;rintro e w2 ⟨A2,c2,rfl,hd2,hf2,hn2⟩)
 have H2:=hide hd2
 have HF2:=hide hf2
 have HN2:=hide hn2
 have c4:=hd2.blk.cell (i:=4) rfl
 have f4:=hd2.blk.frozen 4
 have c5:=hd2.blk.cell (i:=5) rfl
 have f5:=hd2.blk.frozen 5
 clear hd2 hf2 hn2 KS
 go_wp2
 go_ret
 refine ⟨A2,c2,rfl, ?_, ?_, ?_⟩
 ·refine DiskAt.put (D:= { D.settled (fun k=>keep.getD k false) with arm:=0 }) (DiskAt.put H2.out 4 (.int .i64 0) _ rfl rfl rfl) 5 (.bool false) _ rfl rfl rfl
 ·exact (Dfr.ext HX1.out).trans (A':=A) (HF2.out.trans (A':=A2) ((Dfr.cell 4 _).trans (A':=A2) (Dfr.cell 5 _) (Newer.refl _ _)) HN2.out) (Newer.refl _ _)
 ·intro a' ha'
  rcases HN2.out a' ha' with h | h
  ·exact .inl h
  ·exact .inr (Nat.le_trans HX1.out.size h)
section
variable {P:Program} {ops:Array Oper} {Q:Exit→Act→World→Prop} {S:Nat→World→Value→Prop} {a0:Act} {w0:World} {B:Nat}
structure RInvX (B:Nat) (ops:Array Oper) (S:Nat→World→Value→Prop) (a0:Act) (w0:World) (listed:Array Bool) (a:Act) (w:World):Prop where
 size:listed.size=ops.size
 ext:Ext w0 w
 defers:a.defers=a0.defers
 tmps:a.tmps.size=a0.tmps.size
 closed:∀(i:Nat) (o:Oper),ops[i]? =some o→listed[i]? =some true→∀e∈o.after,Region.binds .any e=true→listed[e.on]? =some true
 vals:∀(i:Nat) (o:Oper) (d:Nat),ops[i]? =some o→listed[i]? =some true→o.dst=some d→∃v,a.tmps[d]? =some v∧S i w v
 same:∀t,(∀(i:Nat) (o:Oper),ops[i]? =some o→o.dst=some t→listed[i]? =some false)→a.tmps[t]? =a0.tmps[t]?
def StepOkX (B:Nat) (P:Program) (ops:Array Oper) (S:Nat→World→Value→Prop) (a0:Act) (w0:World) (i:Nat) (o:Oper):Prop:=
 ∀(a:Act) (w:World),Ext w0 w→a.defers=a0.defers→(∀t,keepsB ops i t=true→a.tmps[t]? =a0.tmps[t]?)→
  (∀e∈o.after,Region.binds .any e=true→∀(o':Oper),ops[e.on]? =some o'→∀(d:Nat),o'.dst=some d→∃v,a.tmps[d]? =some v∧S e.on w v)→
  (Region.wanted o (yielded ops a.tmps)=true∧gives P o a w fun v w' =>Ext w w'∧S i w' v)∨(Region.wanted o (yielded ops a.tmps)=false∧S i w undef)
theorem wpAny_growX (hok:regOk ops a0.tmps.size=true) (hup:∀i w w' v,S i w v→Ext w w'→S i w' v)
  (hstep:∀(i:Nat) (o:Oper),ops[i]? =some o→StepOkX B P ops S a0 w0 i o)
  (hend:∀(a:Act) (w:World),Ext w0 w→a.defers=a0.defers→a.tmps.size=a0.tmps.size→(∀(i:Nat) (o:Oper) (d:Nat),ops[i]? =some o→o.dst=some d→∃v,a.tmps[d]? =some v∧S i w v)→
   (∀t,(∀(i:Nat) (o:Oper),ops[i]? =some o→o.dst≠some t)→a.tmps[t]? =a0.tmps[t]?)→Q .normal a w):
  ∀(fuel:Nat) (listed:Array Bool) (a:Act) (w:World),RInvX B ops S a0 w0 listed a w→listed.toList.count true + fuel=ops.size→wpAny P .any ops Q fuel listed a w:=by
 have getb:∀(l:Array Bool) (i:Nat) (b:Bool),l.getD i b=(l[i]?).getD b:=fun l i b=>by simp
 have allTrue:∀(l:Array Bool),l.toList.count true=l.size→∀i,i < l.size→l[i]? =some true:=fun l h i hi=>by
  have:∀x∈l.toList,true=x:=by
   rw [← List.count_eq_length];simpa using h
  rw [Array.getElem?_eq_getElem hi]
  congr 1
  exact (this _ (by simp)).symm
 have fin:∀(listed:Array Bool) (a:Act) (w:World),RInvX B ops S a0 w0 listed a w→(∀i,i < ops.size→listed[i]? =some true)→Q .normal a w:=by
  intro listed a w I h
  have hlt:∀ {i:Nat} {o:Oper},ops[i]? =some o→i < ops.size:=fun {i o} ho=>by
   rcases Nat.lt_or_ge i ops.size with hlt | hge
   ·exact hlt
   ·rw [Array.getElem?_eq_none hge] at ho;cases ho
  exact hend a w I.ext I.defers I.tmps (fun i o d ho hd=>I.vals i o d ho (h i (hlt ho)) hd) (fun t ht=>I.same t fun i o ho hd=>absurd hd (ht i o ho))
 have step:∀(listed:Array Bool) (a:Act) (w:World) (i:Nat) (K:Act→World→Prop),RInvX B ops S a0 w0 listed a w→i∈Region.ready .any ops listed→
   (∀a' w',RInvX B ops S a0 w0 (listed.setIfInBounds i true) a' w'→K a' w')→wpOp P ops Q i K a w:=by
  intro listed a w i K I hr hK
  obtain ⟨hun,o,ho,hall⟩:=mem_ready.1 hr
  have hi:i < listed.size:=by
   rw [I.size]
   rcases Nat.lt_or_ge i ops.size with hlt | hge
   ·exact hlt
   ·rw [Array.getElem?_eq_none hge] at ho;cases ho
  have hfalse:listed[i]? =some false:=by
   rw [getb,Array.getElem?_eq_getElem hi] at hun
   rw [Array.getElem?_eq_getElem hi];simpa using hun
  have hpre:∀e∈o.after,Region.binds .any e=true→listed[e.on]? =some true:=fun e he hb=>by
   have h1:=hall e he hb
   rw [getb] at h1
   cases h2:listed[e.on]? with
   | none=>rw [h2] at h1;simp at h1
   | some b=>rw [h2] at h1;simp at h1;rw [h1]
  have hset:∀(k:Nat),(listed.setIfInBounds i true)[k]? =if i=k then some true else listed[k]? :=fun k=>by
   rw [Array.getElem?_setIfInBounds]
   by_cases h:i=k
   ·subst h;simp [hi]
   ·simp [h]
  have next:∀v w',Ext w w'→S i w' v→RInvX B ops S a0 w0 (listed.setIfInBounds i true) (a.put o.dst v) w':=by
   intro v w' hx hS
   refine ⟨by simpa using I.size,I.ext.trans hx, ?_, ?_, ?_, ?_, ?_⟩
   ·cases hd:o.dst <;> simpa [Act.put] using I.defers
   ·cases hd:o.dst <;> simpa [Act.put] using I.tmps
   ·intro k ok hk hl e he hb
    rw [hset] at hl ⊢
    by_cases hki:i=k
    ·subst hki
     rw [ho] at hk;cases hk
     split
     ·rfl
     ·exact hpre e he hb
    ·rw [if_neg hki] at hl
     split
     ·rfl
     ·exact I.closed k ok hk hl e he hb
   ·intro k ok d hk hl hd
    rw [hset] at hl
    by_cases hki:i=k
    ·subst hki
     rw [ho] at hk;cases hk
     refine ⟨v, ?_,hS⟩
     rw [hd]
     have:=regOk_lt hok ho hd
     simp only [Act.put,Array.getElem?_setIfInBounds]
     simp [I.tmps,this]
    ·rw [if_neg hki] at hl
     obtain ⟨u,hu,hSu⟩:=I.vals k ok d hk hl hd
     refine ⟨u, ?_,hup _ _ _ _ hSu hx⟩
     cases hod:o.dst with
     | none=>simpa [Act.put] using hu
     | some d' =>
      have hne:d'≠d:=fun e=>hki (regOk_one hok ho hk (by rw [hod,e]) hd)
      simp only [Act.put,Array.getElem?_setIfInBounds_ne hne]
      exact hu
   ·intro t ht
    have hit:o.dst≠some t:=fun hd=>by
     have:=ht i o ho hd
     rw [hset,if_pos rfl] at this;cases this
    have:=I.same t fun k ok hk hd=>by
     have h2:=ht k ok hk hd
     rw [hset] at h2
     split at h2
     ·cases h2
     ·exact h2
    rw [← this]
    cases hod:o.dst with
    | none=>rfl
    | some d' =>
     have hne:d'≠t:=fun e=>hit (by rw [hod,e])
     simp only [Act.put,Array.getElem?_setIfInBounds_ne hne]
  have hs:=hstep i o ho a w I.ext I.defers ?_ ?_
  ·unfold wpOp
   simp only [ho]
   rcases hs with ⟨hw,hg⟩ | ⟨hw,hS⟩
   ·rw [if_pos hw]
    exact .inl (wp_of_gives hg fun v w' ⟨hx,hS⟩=>hK _ _ (next v w' hx hS))
   ·rw [if_neg (by rw [hw];exact Bool.false_ne_true)]
    exact hK _ _ (next _ _ (Ext.refl _) hS)
  ·intro t ht
   refine I.same t fun k ok hk hd=> ?_
   simp only [keepsB,List.all_eq_true] at ht
   have hm:ok∈ops.toList:=by simpa using Array.mem_of_getElem? hk
   have:=ht ok hm
   simp only [hd,bne_self_eq_false,Bool.false_or,List.any_eq_true,Array.mem_toList_iff] at this
   obtain ⟨e,he,hb⟩:=this
   simp only [Bool.and_eq_true,beq_iff_eq] at hb
   have hkl:k < listed.size:=by
    rw [I.size]
    rcases Nat.lt_or_ge k ops.size with hlt | hge
    ·exact hlt
    ·rw [Array.getElem?_eq_none hge] at hk;cases hk
   cases hv:listed[k]? with
   | none=>rw [Array.getElem?_eq_getElem hkl] at hv;cases hv
   | some b=>
    cases b with
    | false=>rfl
    | true=>
     have:=I.closed k ok hk hv e he hb.2
     rw [hb.1,hfalse] at this;cases this
  ·intro e he hb o' ho' d hd
   exact I.vals e.on o' d ho' (hpre e he hb) hd
 have full:∀(listed:Array Bool) (a:Act) (w:World),RInvX B ops S a0 w0 listed a w→Region.ready .any ops listed= []→∀i,i < ops.size→listed[i]? =some true:=by
  intro listed a w I hr i
  induction i using Nat.strongRecOn with
  | ind i ih=>
   intro hi
   cases hv:listed[i]? with
   | none=>rw [Array.getElem?_eq_none_iff,I.size] at hv;omega
   | some b=>
    cases b with
    | true=>rfl
    | false=>
     exfalso
     have hmem:i∈Region.ready .any ops listed:=by
      refine mem_ready.2 ⟨by rw [getb,hv];rfl,ops[i],Array.getElem?_eq_getElem hi,fun e he hb=> ?_⟩
      have hlt:=regOk_back hok (Array.getElem?_eq_getElem hi) he hb
      rw [getb,ih e.on hlt (by omega)];rfl
     rw [hr] at hmem;cases hmem
 intro fuel
 induction fuel with
 | zero=>
  intro listed a w I hc
  have hall:=allTrue listed (by rw [I.size];omega)
  rw [I.size] at hall
  refine ⟨?_,fin listed a w I hall⟩
  cases hr:Region.ready .any ops listed with
  | nil=>rfl
  | cons i rest=>
   exfalso
   have hm:i∈Region.ready .any ops listed:=by rw [hr];simp
   obtain ⟨hun,o,ho,_⟩:=mem_ready.1 hm
   have hlt:i < ops.size:=by
    rcases Nat.lt_or_ge i ops.size with hlt | hge
    ·exact hlt
    ·rw [Array.getElem?_eq_none hge] at ho;cases ho
   rw [getb,hall i hlt] at hun;cases hun
 | succ fuel ih=>
  intro listed a w I hc
  refine ⟨fun hr=>fin listed a w I (full listed a w I hr),fun i hi=>step listed a w i _ I hi fun a' w' I' =>ih _ a' w' I' ?_⟩
  obtain ⟨hun,o,ho,_⟩:=mem_ready.1 hi
  have hlt:i < listed.size:=by
   rw [I.size]
   rcases Nat.lt_or_ge i ops.size with hlt | hge
   ·exact hlt
   ·rw [Array.getElem?_eq_none hge] at ho;cases ho
  rw [count_set (by rw [getb,Array.getElem?_eq_getElem hlt] at hun;rw [Array.getElem?_eq_getElem hlt];simpa using hun)]
  omega
theorem wp_region_growX {id:Nat} (S:Nat→World→Value→Prop) (hm:P.follows .mixedOrders=true) (hok:regOk ops a0.tmps.size=true)
  (hup:∀i w w' v,S i w v→Ext w w'→S i w' v) (hstep:∀(i:Nat) (o:Oper),ops[i]? =some o→StepOkX B P ops S a0 w0 i o)
  (hend:∀(a:Act) (w:World),Ext w0 w→a.defers=a0.defers→a.tmps.size=a0.tmps.size→(∀(i:Nat) (o:Oper) (d:Nat),ops[i]? =some o→o.dst=some d→∃v,a.tmps[d]? =some v∧S i w v)→
   (∀t,(∀(i:Nat) (o:Oper),ops[i]? =some o→o.dst≠some t)→a.tmps[t]? =a0.tmps[t]?)→Q .normal a w):
  (Code.region id ops true).wp P Q a0 w0:=by
 refine wp_region_any hm (wpAny_growX hok hup hstep hend ops.size _ a0 _ ?_ ?_)
 ·refine ⟨by simp,Ext.drewn _ _,rfl,rfl, ?_, ?_,fun _ _=>rfl⟩
  ·intro i o ho hl
   rw [Array.getElem?_replicate] at hl
   split at hl <;> simp at hl
  ·intro i o d ho hl
   rw [Array.getElem?_replicate] at hl
   split at hl <;> simp at hl
 ·have:(Array.replicate ops.size false).toList.count true=0:=by simp [List.count_replicate]
  omega
end
structure SpX where
 p:World→Value→Prop
 up:∀w w' v,p w v→Ext w w'→p w' v
def SpX.any:SpX:=⟨fun _ _=>True,fun _ _ _ _ _=>trivial⟩
def SpX.is (x:Value):SpX:=⟨fun _ v=>v=x,fun _ _ _ h _=>h⟩
def PaysX (B:Nat) (P:Program) (ops:Array Oper) (L:List SpX) (a0:Act) (w0:World) (i:Nat) (o:Oper):Prop:=
 ∀(a:Act) (w:World),Ext w0 w→B≤w.heap.size→(∀t,keepsB ops i t=true→a.tmps[t]? =a0.tmps[t]?)→
  (∀j,(o.after.toList.any fun e=>e.on==j && Region.binds .any e)=true→∀(o':Oper),ops[j]? =some o'→∀(d:Nat),o'.dst=some d→∃v,a.tmps[d]? =some v∧(L.getD j SpX.any).p w v)→
  (Region.wanted o (yielded ops a.tmps)=true∧gives P o a w fun v w' =>Ext w w'∧(L.getD i SpX.any).p w' v)∨(Region.wanted o (yielded ops a.tmps)=false∧(L.getD i SpX.any).p w undef)
theorem wp_region_spX {B:Nat} {P:Program} {ops:List Oper} {Q:Exit→Act→World→Prop} {a0:Act} {w0:World} {id:Nat} (hB:B≤w0.heap.size) (L:List SpX) (hm:P.follows .mixedOrders=true) (hok:regOk ops.toArray a0.tmps.size=true)
  (hstep:PaysFrom (PaysX B P ops.toArray L a0 w0) 0 ops)
  (hend:∀(a:Act) (w:World),Ext w0 w→a.defers=a0.defers→a.tmps.size=a0.tmps.size→(∀(i:Nat) (o:Oper) (d:Nat),ops.toArray[i]? =some o→o.dst=some d→∃v,a.tmps[d]? =some v∧(L.getD i SpX.any).p w v)→
   (∀t,(∀(i:Nat) (o:Oper),ops.toArray[i]? =some o→o.dst≠some t)→a.tmps[t]? =a0.tmps[t]?)→Q .normal a w):
  (Code.region id ops.toArray true).wp P Q a0 w0:=by
 refine wp_region_growX (B:=B) (fun i=>(L.getD i SpX.any).p) hm hok (fun i w w' v h hx=>(L.getD i SpX.any).up w w' v h hx) ?_ hend
 intro i o ho a w hx hd hk H
 have h:=paysFrom_all ops 0 hstep i o (by simpa using ho)
 rw [Nat.zero_add] at h
 refine h a w hx (Nat.le_trans hB hx.size) hk fun j hj o' ho' d hd' => ?_
 simp only [List.any_eq_true,Array.mem_toList_iff] at hj
 obtain ⟨e,he,hb⟩:=hj
 simp only [Bool.and_eq_true,beq_iff_eq] at hb
 obtain ⟨rfl,hb⟩:=hb
 exact H e he hb o' ho' d hd'
def D0 (n:Nat):Dk:= { dur:=List.replicate n (List.replicate 512 0),pen:= [],ops:=0,arm:=0,off:=false }
theorem D0_len (n:Nat):(D0 n).dur.length=n:=List.length_replicate ..
theorem D0_flat (n:Nat):(D0 n).dur.flatten=List.replicate (n * 512) 0:=List.flatten_replicate_replicate
theorem made_same (z:List Value) (v:Value) (hz:∀u∈z,u=v) (h0:z≠ []) (m:Nat):madeCells z.toArray m=(List.replicate m v).toArray:=by
 have hp:0 < z.length:=List.length_pos_iff.2 h0
 apply Array.ext'
 apply List.ext_getElem
 ·simp [madeCells]
 ·intro i h1 h2
  have hi:i % z.length < z.length:=Nat.mod_lt _ hp
  simp only [madeCells,Array.toList_map,Array.toList_range,List.getElem_map,List.getElem_range,List.size_toArray,List.getElem_replicate]
  rw [show (z.toArray[i % z.length]! :Value)=z[i % z.length] from by simp [hi]]
  exact hz _ (List.getElem_mem _)
theorem zeroInt:(Tryz.prog.info? 3).map (fun i=>(i.zero,i.size))=some (some (.int .i64 0),1):=by kernel_rfl
theorem bytesInt:(Tryz.prog.info? 3).map (·.bytes)=some 8:=by kernel_rfl
theorem bytesSec:(Tryz.prog.info? 119).map (·.bytes)=some 512:=by kernel_rfl
theorem make_sec (w:World) (n:Nat) (hn:n≤4096):(Instr.makeSlice 54 (.int .i64 (n:Int)) (.int .i64 (n:Int))).run Tryz.prog w= .ok (.slice (some ⟨w.heap.size,0,none⟩) n n) (w.alloc (.cells (bs (List.replicate (n * 512) 0)).toArray 119)):=by
 have hz:=zeroSec
 have hby:=bytesSec
 cases hq:Tryz.prog.info? 119 with
 | none=>rw [hq] at hz;cases hz
 | some i=>
  rw [hq] at hz hby
  simp only [Option.map_some,Option.some.injEq,Prod.mk.injEq] at hz hby
  have h:=run_make (P:=Tryz.prog) w 54 119 i _ Tryz.underlying54 hq hz.1 .i64 .i64 (n:Int) (n:Int) (by omega) (by omega) (by rw [hby];omega) (by omega)
  rw [hz.2] at h
  have e:madeCells (Value.agg (bs (List.replicate 512 0)).toArray).cells ((n:Int).toNat * 512)=(bs (List.replicate (n * 512) 0)).toArray:=by
   show madeCells (bs (List.replicate 512 0)).toArray _=_
   rw [made_same (bs (List.replicate 512 0)) (.int .u8 0) (fun u hu=>by
    unfold bs at hu
    rw [List.map_replicate] at hu
    exact List.eq_of_mem_replicate hu) (by intro e;have:=congrArg List.length e;rw [bs_length,List.length_replicate] at this;cases this)]
   unfold bs
   rw [List.map_replicate]
   rfl
  rw [e] at h
  exact h
theorem make_int (w:World) (n:Nat) (hn:n≤4096):(Instr.makeSlice 55 (.int .i64 (n:Int)) (.int .i64 (n:Int))).run Tryz.prog w= .ok (.slice (some ⟨w.heap.size,0,none⟩) n n) (w.alloc (.cells (newL n []).toArray 3)):=by
 have hz:=zeroInt
 have hby:=bytesInt
 cases hq:Tryz.prog.info? 3 with
 | none=>rw [hq] at hz;cases hz
 | some i=>
  rw [hq] at hz hby
  simp only [Option.map_some,Option.some.injEq,Prod.mk.injEq] at hz hby
  have h:=run_make (P:=Tryz.prog) w 55 3 i _ Tryz.underlying55 hq hz.1 .i64 .i64 (n:Int) (n:Int) (by omega) (by omega) (by rw [hby];omega) (by omega)
  rw [hz.2] at h
  have e:madeCells (Value.int .i64 0).cells ((n:Int).toNat * 1)=(newL n []).toArray:=by
   show madeCells [Value.int .i64 0].toArray _=_
   rw [made_same [.int .i64 0] (.int .i64 0) (fun u hu=>List.mem_singleton.1 hu) (by simp)]
   refine congrArg List.toArray ?_
   apply List.ext_getElem?
   intro i
   by_cases hi:i < n
   ·rw [newL_get _ _ _ hi]
    simp [hi,lastP_nil]
   ·rw [List.getElem?_eq_none (by simp;omega),List.getElem?_eq_none (by simp [newL];omega)]
  rw [e] at h
  exact h
theorem gives_make {P:Program} {o:Oper} {a:Act} {w:World} {R:Value→World→Prop} {t:TypeId} {x y:Operand} {u z v:Value} {w':World} (h:o.op= .makeSlice t x y) (hx:a.eval x=u) (hy:a.eval y=z) (hrun:(Instr.makeSlice t u z).run P w= .ok v w') (hR:R v w'):gives P o a w R:=by
 refine gives_of_run (w':=w') (v:=v) ?_ hR
 unfold execOp
 simp only [h,hx,hy,Sem.run_bind,hrun,Result.andThen_ok,Sem.run_pure]
theorem gives_box {P:Program} {o:Oper} {a:Act} {w:World} {R:Value→World→Prop} {t:TypeId} {x:Operand} (h:o.op= .box t x) (cells:Array Value) (hx:(a.eval x).cells=cells) (hR:R (.pointer (some ⟨w.heap.size,0,none⟩)) (w.alloc (.cells cells t))):gives P o a w R:=by
 subst hx
 refine gives_of_run (w':=w.alloc (.cells (a.eval x).cells t)) (v:= .pointer (some ⟨w.heap.size,0,none⟩)) ?_ hR
 unfold execOp
 simp only [h,Sem.run_bind,Instr.box,newVar,newRow,run_newObj_alloc,Sem.run_pure,Result.andThen_ok]
theorem builtD (gd gn n:Nat):Tryz.prog.built 58 [(0, .slice (some ⟨gd,0,none⟩) n n),(2, .slice (some ⟨gn,0,none⟩) n n)]=some #[.slice (some ⟨gd,0,none⟩) n n, .slice none 0 0, .slice (some ⟨gn,0,none⟩) n n, .int .i64 0, .int .i64 0, .bool false]:=by kernel_rfl
def SecS (B n:Nat) (w:World) (v:Value):Prop:=∃g,v= .slice (some ⟨g,0,none⟩) n n∧Rw w g 119 (bs (List.replicate (n * 512) 0))∧B≤g
def IntS (B n:Nat) (w:World) (v:Value):Prop:=∃g,v= .slice (some ⟨g,0,none⟩) n n∧Rw w g 3 (newL n [])∧B≤g
def BothS (B n:Nat) (w:World) (v:Value):Prop:=∃gd gn,v= .agg #[.slice (some ⟨gd,0,none⟩) n n, .slice none 0 0, .slice (some ⟨gn,0,none⟩) n n, .int .i64 0, .int .i64 0, .bool false]∧Rw w gd 119 (bs (List.replicate (n * 512) 0))∧Rw w gn 3 (newL n [])∧B≤gd∧B≤gn
def DiskS (B n:Nat) (w:World) (v:Value):Prop:=∃g gd gn,v= .pointer (some ⟨g,0,none⟩)∧DiskAt B w g gd gn none 0 (D0 n)
def NPost (n:Nat) (w:World) (e:Ending) (w':World):Prop:=∃g gd gn,e= .returned (.tuple #[.pointer (some ⟨g,0,none⟩), .int .i64 0])∧DiskAt w.heap.size w' g gd gn none 0 (D0 n)∧Ext w w'
theorem new_any (n:Nat) (h1:1≤n) (h2:n≤4096) (w:World):Calls Tryz.prog 6 #[.int .i64 (n:Int)] w (NPost n w):=by
 have k1:¬(n:Int) < 1:=by omega
 have k2:¬(4096:Int) < (n:Int):=by omega
 have HN:=hide h2
 clear h1 h2
 obtain ⟨z,HZ⟩:∃z:Int,Hid (z=(n:Int)):=⟨_,hide rfl⟩
 rw [← HZ.out] at k1 k2 ⊢
 have HMS:=hide fun W=>(show (Instr.makeSlice 54 (.int .i64 z) (.int .i64 z)).run Tryz.prog W= .ok (.slice (some ⟨W.heap.size,0,none⟩) n n) (W.alloc (.cells (bs (List.replicate (n * 512) 0)).toArray 119)) from by rw [HZ.out];exact make_sec W n HN.out)
 have HMI:=hide fun W=>(show (Instr.makeSlice 55 (.int .i64 z) (.int .i64 z)).run Tryz.prog W= .ok (.slice (some ⟨W.heap.size,0,none⟩) n n) (W.alloc (.cells (newL n []).toArray 3)) from by rw [HZ.out];exact make_int W n HN.out)
 clear HZ
 go_enter Tryz.func6,Tryz.ntmps6
 go_upto_region 3 with fail
 rename_i hK
 refine wp_region_spX (Nat.le_refl _) [SpX.is (.int .i64 z),⟨SecS w.heap.size n,fun _ _ _ ⟨g,e,h,hb⟩ hx=>⟨g,e,h.ext hx,hb⟩⟩,SpX.is (.int .i64 z),⟨IntS w.heap.size n,fun _ _ _ ⟨g,e,h,hb⟩ hx=>⟨g,e,h.ext hx,hb⟩⟩,
  ⟨BothS w.heap.size n,fun _ _ _ ⟨gd,gn,e,h,k,hb⟩ hx=>⟨gd,gn,e,h.ext hx,k.ext hx,hb⟩⟩,⟨DiskS w.heap.size n,fun _ _ _ ⟨g,gd,gn,e,h⟩ hx=>⟨g,gd,gn,e,h.ext hx⟩⟩,⟨DiskS w.heap.size n,fun _ _ _ ⟨g,gd,gn,e,h⟩ hx=>⟨g,gd,gn,e,h.ext hx⟩⟩,SpX.is (.int .i64 0)] (by kernel_rfl) (by kernel_rfl) ?_ ?_
 ·refine ⟨?_, ?_, ?_, ?_, ?_, ?_, ?_, ?_,trivial⟩
  ·intro az wz hx hB hk H
   refine .inl ⟨wanted_none rfl,gives_move rfl ?_⟩
   rw [ev (show az.tmps[0]? =some (.int .i64 z) from hk 0 rfl)]
   exact ⟨Ext.refl _,rfl⟩
  ·intro az wz hx hB hk H
   obtain ⟨v,h10,s10⟩:=H 0 rfl _ rfl 10 rfl
   obtain rfl:v= .int .i64 z:=s10
   exact .inl ⟨wanted_none rfl,gives_make rfl (ev h10) (ev h10) (HMS.out wz) ⟨Ext.alloc _ _,_,rfl,Rw.new _ _ _,hx.size⟩⟩
  ·intro az wz hx hB hk H
   refine .inl ⟨wanted_none rfl,gives_move rfl ?_⟩
   rw [ev (show az.tmps[0]? =some (.int .i64 z) from hk 0 rfl)]
   exact ⟨Ext.refl _,rfl⟩
  ·intro az wz hx hB hk H
   obtain ⟨v,h10,s10⟩:=H 2 rfl _ rfl 12 rfl
   obtain rfl:v= .int .i64 z:=s10
   exact .inl ⟨wanted_none rfl,gives_make rfl (ev h10) (ev h10) (HMI.out wz) ⟨Ext.alloc _ _,_,rfl,Rw.new _ _ _,hx.size⟩⟩
  ·intro az wz hx hB hk H
   obtain ⟨v1,h11,gd,rfl,hgd,bd⟩:=H 1 rfl _ rfl 11 rfl
   obtain ⟨v3,h13,gn,rfl,hgn,bn⟩:=H 3 rfl _ rfl 13 rfl
   exact .inl ⟨wanted_none rfl,gives_build rfl _ [(0, .slice (some ⟨gd,0,none⟩) n n),(2, .slice (some ⟨gn,0,none⟩) n n)] (by show [(0,az.eval (.tmp 11)),(2,az.eval (.tmp 13))]=_;rw [ev h11,ev h13]) (builtD _ _ _) ⟨Ext.refl _,gd,gn,rfl,hgd,hgn,bd,bn⟩⟩
  ·intro az wz hx hB hk H
   obtain ⟨v,h14,gd,gn,rfl,hgd,hgn,bd,bn⟩:=H 4 rfl _ rfl 14 rfl
   refine .inl ⟨wanted_none rfl,gives_box rfl #[.slice (some ⟨gd,0,none⟩) n n, .slice none 0 0, .slice (some ⟨gn,0,none⟩) n n, .int .i64 0, .int .i64 0, .bool false] (by rw [ev h14];rfl) ⟨Ext.alloc _ _,wz.heap.size,gd,gn,rfl, ?_, ?_, ?_,World.ownsRow_nil _ _ _ _,hx.size,bd,bn⟩⟩
   ·have h:=Rw.new wz 58 (diskC gd gn none 0 (D0 n))
    unfold diskC at h ⊢
    rw [D0_len] at h ⊢
    exact h
   ·rw [D0_flat];exact hgd.ext (Ext.alloc _ _)
   ·rw [D0_len];exact hgn.ext (Ext.alloc _ _)
  ·intro az wz hx hB hk H
   obtain ⟨v,h15,s15⟩:=H 5 rfl _ rfl 15 rfl
   refine .inl ⟨wanted_none rfl,gives_assign rfl ?_⟩
   rw [ev h15]
   exact ⟨Ext.refl _,s15⟩
  ·intro az wz hx hB hk H
   exact .inl ⟨wanted_none rfl,gives_assign rfl ⟨Ext.refl _,rfl⟩⟩
 ·intro az wz hx hd hs hv hsame
  obtain ⟨v2,h2,g,gd,gn,rfl,hD⟩:=hv 6 _ 2 rfl rfl
  obtain ⟨v3,h3,s3⟩:=hv 7 _ 3 rfl rfl
  obtain rfl:v3= .int .i64 0:=s3
  refine hK _ _ ?_
  refine wp_ret ?_
  refine bodyPost_ret (results_tmp2 rfl _ _ _) hd ?_
  refine ⟨g,gd,gn, ?_,hD,hx⟩
  simp [h2,h3]
theorem make_512 (W:World):(Instr.makeSlice 22 (.int .i64 512) (.int .i64 512)).run Tryz.prog W= .ok (.slice (some ⟨W.heap.size,0,none⟩) 512 512) (W.alloc (.cells (bs (List.replicate 512 0)).toArray 5)):=by
 obtain ⟨i0,hi,hz0,hz1,hz2⟩:=info_parts info_u8
 have h:=run_make (P:=Tryz.prog) W 22 5 i0 (.int .u8 0) Tryz.underlying22 hi hz0 .i64 .i64 512 512 (by omega) (by omega) (by rw [hz2];omega) (by omega)
 rw [hz1] at h
 have e:madeCells (Value.int .u8 0).cells ((512:Int).toNat * 1)=(bs (List.replicate 512 0)).toArray:=by
  show madeCells [Value.int .u8 0].toArray _=_
  rw [made_same [.int .u8 0] (.int .u8 0) (fun u hu=>List.mem_singleton.1 hu) (by simp)]
  unfold bs
  rw [List.map_replicate]
  rfl
 rw [e] at h
 exact h
def FPost (w:World) (l:List UInt8) (e:Ending) (w':World):Prop:=∃h,e= .returned (.slice (some ⟨h,0,none⟩) 512 512)∧Rw w' h 5 (bs l)∧w.heap.size≤h∧Ext w w'
theorem own_base {B t size n c:Nat} {w:World} {A:Option Addr} {xs:List Value} (h:w.ownsRow B t size (.slice A n c) n xs):∀a,A=some a→B≤a.block∧a.block < w.heap.size:=fun a ha=>by
 rcases h.2 with ⟨hv,_⟩ | ⟨g',_,_,hv,hb,hg',_⟩
 ·injection hv with hv;rw [ha] at hv;cases hv
 ·injection hv with hv;rw [ha] at hv;injection hv with hv;subst hv;exact ⟨hb,(Array.getElem?_eq_some_iff.1 hg').1⟩
theorem Dfr.grown {g gd gn c:Nat} {w0 w w':World} {A:Option Addr} {D:Dk} (h:Ext w0 w) (hd:DiskAt w0.heap.size w g gd gn A c D) (k:Dfr g gd gn A w w'):Ext w0 w':=
 ⟨k.os.trans h.os,k.tape.trans h.tape,k.output.trans h.output,Nat.le_trans h.size k.size,fun b hb=>(k.other b (Nat.lt_of_lt_of_le hb h.size) (by have:=hd.base;omega) (by have:=hd.base;omega) (by have:=hd.base;omega) (fun a ha e=>by have:=(own_base hd.pen a ha).1;omega)).trans (Below.block h b hb)⟩
theorem Rd.of_rw {w:World} {g:Nat} {t:TypeId} {l:List UInt8} (h:Rw w g t (bs l)):Rd w (some ⟨g,0,none⟩) l:=fun _=>⟨g,0,rfl,fun j u hu=>by rw [Nat.zero_add];exact h.cell (by rw [bs_get,hu];rfl)⟩
section
variable {B g gd gn c d:Nat} {w:World} {A Pp:Option Addr} {D:Dk}
theorem write_arg (h:DiskAt B w g gd gn A c D) (i:Int) (n:Nat) (hi:i < 0∨(D.dur.length:Int)≤i):Calls Tryz.prog 46 #[.pointer (some ⟨g,0,none⟩), .int .i64 i, .slice Pp n d] w (Same w (.int .i64 1)):=by
 have KH:=has_any h i
 rw [show (decide (0≤i) && decide (i < (D.dur.length:Int)))=false by rw [Bool.and_eq_false_iff];rcases hi with h | h;exact .inl (decide_eq_false (by omega));exact .inr (decide_eq_false (by omega))] at KH
 have HK:=hide KH
 clear h hi KH
 go_enter Tryz.func46,Tryz.ntmps46
 go_wp2_with (go_at_call 76;(with_reducible refine HK.out.mono ?_);rintro e w2 ⟨rfl,rfl⟩)
 go_ret
 exact ⟨rfl,rfl⟩
theorem write_form (h:DiskAt B w g gd gn A c D) (k n:Nat) (hk:k < D.dur.length) (hn:n≠512) (hnl:n≤140737488355328):Calls Tryz.prog 46 #[.pointer (some ⟨g,0,none⟩), .int .i64 (k:Int), .slice Pp n d] w (Same w (.int .i64 3)):=by
 have KH:=has_any h (k:Int)
 rw [show (decide ((0:Int)≤(k:Int)) && decide ((k:Int) < (D.dur.length:Int)))=true by simp;omega] at KH
 have HK:=hide KH
 have hnz:((n:Int) !=512)=true:=by simp;omega
 clear h hk KH hn hnl
 go_enter Tryz.func46,Tryz.ntmps46
 go_wp2_with (go_at_call 76;(with_reducible refine HK.out.mono ?_);rintro e w2 ⟨rfl,rfl⟩)
 go_ret
 exact ⟨rfl,rfl⟩
theorem write_off (h:DiskAt B w g gd gn A c D) (k:Nat) (hk:k < D.dur.length) (hoff:D.off=true):Calls Tryz.prog 46 #[.pointer (some ⟨g,0,none⟩), .int .i64 (k:Int), .slice Pp 512 d] w (Same w (.int .i64 8)):=by
 obtain ⟨-,-,-,-,-,c5⟩:=disk_cells h
 rw [hoff] at c5
 have KH:=has_any h (k:Int)
 rw [show (decide ((0:Int)≤(k:Int)) && decide ((k:Int) < (D.dur.length:Int)))=true by simp;omega] at KH
 have HK:=hide KH
 clear h hk KH hoff
 go_enter Tryz.func46,Tryz.ntmps46
 go_wp2_with (go_at_call 76;(with_reducible refine HK.out.mono ?_);rintro e w2 ⟨rfl,rfl⟩)
 go_ret
 exact ⟨rfl,rfl⟩
end
def wE (D:Dk) (i:Int) (p:List UInt8):Int:=if i < 0∨(D.dur.length:Int)≤i then 1 else if p.length≠512 then 3 else if D.off=true then 8 else (D.put i.toNat p).opE
def wD (D:Dk) (i:Int) (p:List UInt8):Dk:=if i < 0∨(D.dur.length:Int)≤i then D else if p.length≠512 then D else if D.off=true then D else (D.put i.toNat p).op
def sE (D:Dk):Int:=if D.off=true then 8 else if D.arm=1 then 8 else 0
def sD (D:Dk):Dk:=if D.off=true then D else if D.arm=1 then D.op else D.op.settled fun _=>true
def gE (D:Dk) (i:Int):Int:=if i < 0∨(D.dur.length:Int)≤i then 1 else if D.off=true then 8 else 0
def gB (D:Dk) (i:Int):List UInt8:=if i < 0∨(D.dur.length:Int)≤i then [] else if D.off=true then [] else D.at i.toNat
section
variable {B g gd gn c d gl cl gx cx:Nat} {w:World} {A Pp AX:Option Addr} {D:Dk} {rest:List Value}
theorem dpost_same (h:DiskAt B w g gd gn A c D) {r:Value} {e:Ending} {w':World} (hs:Same w r e w'):DPost B g gd gn w A r D e w':=by
 obtain ⟨rfl,rfl⟩:=hs
 exact ⟨A,c,rfl,h,Dfr.refl _ _ _ _ _,Newer.refl _ _⟩
structure Bd (D:Dk):Prop where
 ok:D.Ok
 pen:D.pen.length < 1000000
 ops:D.ops < 1000000
 arm:D.arm < 9223372036854775808
theorem write_uni (h:DiskAt B w g gd gn A c D) (b:Bd D) (hB:B≤w.heap.size) (i:Int) (p:List UInt8) (np:Nat) (hp:p.length=np) (hnl:np≤140737488355328) (hP:Rd w Pp p):
  Calls Tryz.prog 46 #[.pointer (some ⟨g,0,none⟩), .int .i64 i, .slice Pp np d] w (DPost B g gd gn w A (.int .i64 (wE D i p)) (wD D i p)):=by
 unfold wE wD
 by_cases h1:i < 0∨(D.dur.length:Int)≤i
 ·rw [if_pos h1,if_pos h1]
  exact (write_arg h i np h1).mono fun _ _ hs=>dpost_same h hs
 ·rw [if_neg h1,if_neg h1]
  obtain ⟨k,rfl⟩:∃k:Nat,i=(k:Int):=⟨i.toNat,by omega⟩
  have hk:k < D.dur.length:=by omega
  by_cases h2:p.length≠512
  ·rw [if_pos h2,if_pos h2]
   exact (write_form h k np hk (by rw [← hp];exact h2) hnl).mono fun _ _ hs=>dpost_same h hs
  ·rw [if_neg h2,if_neg h2]
   have h512:p.length=512:=by omega
   obtain rfl:np=512:=by omega
   by_cases h3:D.off=true
   ·rw [if_pos h3,if_pos h3]
    exact (write_off h k hk h3).mono fun _ _ hs=>dpost_same h hs
   ·rw [if_neg h3,if_neg h3,Int.toNat_natCast]
    exact write_any h b.ok (by simpa using h3) b.pen b.ops b.arm k hk p h512 hP hB
theorem sync_uni (h:DiskAt B w g gd gn A c D) (b:Bd D) (hB:B≤w.heap.size):Calls Tryz.prog 47 #[.pointer (some ⟨g,0,none⟩)] w (DPost B g gd gn w A (.int .i64 (sE D)) (sD D)):=by
 unfold sE sD
 by_cases h3:D.off=true
 ·rw [if_pos h3,if_pos h3]
  exact (sync_off h h3).mono fun _ _ hs=>dpost_same h hs
 ·rw [if_neg h3,if_neg h3]
  have hoff:D.off=false:=by simpa using h3
  by_cases h1:D.arm=1
  ·rw [if_pos h1,if_pos h1]
   exact sync_fall h hoff h1 b.ops
  ·rw [if_neg h1,if_neg h1]
   exact sync_any h b.ok hoff h1 b.arm b.pen b.ops hB
def RdPost (w:World) (D:Dk) (i:Int) (e:Ending) (w':World):Prop:=∃v,e= .returned (.tuple #[v, .int .i64 (gE D i)])∧Bytes (gB D i) w' v∧Ext w w'
theorem at_len (b:Bd D) (k:Nat) (hk:k < D.dur.length):(D.at k).length=512:=by
 unfold Dk.at
 split
 ·rw [List.getD_eq_getElem?_getD,List.getElem?_eq_getElem hk]
  exact b.ok.dur _ (List.getElem_mem _)
 ·rename_i h0
  rcases lastP_at D.pen.length D.pen k rfl with h | ⟨s,h1,h2,h3⟩
  ·exact absurd h h0
  ·rw [List.getD_eq_getElem?_getD,h1]
   exact (b.ok.pen _ (List.mem_of_getElem? h1)).2
theorem read_uni (h:DiskAt B w g gd gn A c D) (b:Bd D) (i:Int):Calls Tryz.prog 82 #[.pointer (some ⟨g,0,none⟩), .int .i64 i] w (RdPost w D i):=by
 unfold RdPost gE gB
 by_cases h1:i < 0∨(D.dur.length:Int)≤i
 ·rw [if_pos h1,if_pos h1]
  refine (read_arg h i h1).mono fun e w' hs=> ?_
  obtain ⟨rfl,rfl⟩:=hs
  exact ⟨_,rfl,⟨none,0,rfl,Nat.le_refl _,Rd.nil _ _⟩,Ext.refl _⟩
 ·rw [if_neg h1,if_neg h1]
  obtain ⟨k,rfl⟩:∃k:Nat,i=(k:Int):=⟨i.toNat,by omega⟩
  have hk:k < D.dur.length:=by omega
  by_cases h3:D.off=true
  ·rw [if_pos h3,if_pos h3]
   refine (read_off h h3 (k:Int) (by omega) (by omega)).mono fun e w' hs=> ?_
   obtain ⟨rfl,rfl⟩:=hs
   exact ⟨_,rfl,⟨none,0,rfl,Nat.le_refl _,Rd.nil _ _⟩,Ext.refl _⟩
  ·rw [if_neg h3,if_neg h3,Int.toNat_natCast]
   refine (read_any h b.ok (by simpa using h3) (by have:=b.pen;omega) k hk).mono fun e w' hs=> ?_
   obtain ⟨hh,rfl,hr,_,hx⟩:=hs
   have hl:=at_len b k hk
   exact ⟨_,rfl,⟨some ⟨hh,0,none⟩,512,by rw [hl],by rw [hl];exact Nat.le_refl _,Rd.of_rw hr⟩,hx⟩
theorem wD_bd (b:Bd D) (hp:D.pen.length < 900000) (ho:D.ops < 900000) (i:Int) (p:List UInt8):Bd (wD D i p)∧(wD D i p).pen.length≤D.pen.length + 1∧(wD D i p).ops≤D.ops + 1∧(wD D i p).dur.length=D.dur.length:=by
 unfold wD
 split
 ·exact ⟨b,by omega,by omega,rfl⟩
 ·rename_i h1
  split
  ·exact ⟨b,by omega,by omega,rfl⟩
  ·rename_i h2
   split
   ·exact ⟨b,by omega,by omega,rfl⟩
   ·have hk:i.toNat < D.dur.length:=by omega
    refine ⟨⟨⟨b.ok.pos,b.ok.max,b.ok.dur,fun x hx=> ?_⟩, ?_, ?_, ?_⟩, ?_,Nat.le_refl _,rfl⟩
    ·have hx:x∈D.pen ++ [(i.toNat,p)]:=hx
     rcases List.mem_append.1 hx with hx | hx
     ·exact b.ok.pen x hx
     ·rw [List.mem_singleton.1 hx];exact ⟨hk,by simpa using h2⟩
    ·show (D.pen ++ [(i.toNat,p)]).length < 1000000
     rw [List.length_append,List.length_singleton];omega
    ·show D.ops + 1 < 1000000
     omega
    ·show D.arm - 1 < 9223372036854775808
     have:=b.arm;omega
    ·show (D.pen ++ [(i.toNat,p)]).length≤D.pen.length + 1
     rw [List.length_append,List.length_singleton];omega
theorem settled_bd (b:Bd D) (kept:Nat→Bool) (ar:Nat) (har:ar < 9223372036854775808) (op:Nat) (hop:op < 1000000) (f:Bool):Bd ⟨durK kept D.dur D.pen D.pen.length, [],op,ar,f⟩:=
 ⟨⟨by show 1≤(durK kept D.dur D.pen D.pen.length).length;rw [durK_len];exact b.ok.pos,by show (durK kept D.dur D.pen D.pen.length).length≤4096;rw [durK_len];exact b.ok.max,durK_lens b.ok.dur b.ok.pens _,fun x hx=>(List.not_mem_nil hx).elim⟩,by show (0:Nat) < 1000000;decide,hop,har⟩
theorem sD_bd (b:Bd D) (ho:D.ops < 900000):Bd (sD D)∧(sD D).pen.length≤D.pen.length + 1∧(sD D).ops≤D.ops + 1∧(sD D).dur.length=D.dur.length:=by
 unfold sD
 split
 ·exact ⟨b,by omega,by omega,rfl⟩
 ·split
  ·exact ⟨⟨Dk.op_ok b.ok,b.pen,by show D.ops + 1 < 1000000;omega,by show D.arm - 1 < 9223372036854775808;have:=b.arm;omega⟩,by show D.pen.length≤_;omega,Nat.le_refl _,rfl⟩
  ·exact ⟨settled_bd b _ _ (by show D.arm - 1 < 9223372036854775808;have:=b.arm;omega) _ (by show D.ops + 1 < 1000000;omega) _,by show (0:Nat)≤_;omega,Nat.le_refl _,durK_len (fun _=>true) D.dur D.pen D.pen.length⟩
end
end Go.Proofs.YthmdmgnhfhpcaaaGreatDoor
